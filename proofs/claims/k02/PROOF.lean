import PyProof.Rows.All
import Wide.All
import OpenK.AllK
import Wide.FinOn
import KE.KStateDown
import KE.GoesMore
import HandS.ForMost
import HandS.ForExc
import HandS.More
import HandS.ExcIs
import HandS.IsInst
import PyProof.EnumMake
import HandS.Walk
import HandS.Words
import HandS.TupAny
import HandS.TupMul
import HandS.Codes
import HandS.Style
import KE.KRevSl
import HandS.SlotsOwn
import KE.KCallOwn
import PyProof.FactsAll.object_2
import KE.DataMinMax
import HandS.MakeKwOnly
import HandS.Defaults
import HandS.MakeKw
import HandS.FStr
import HandS.Text
import Lean
import HandS.Wide
import HandS.WideBits
import HandS.Zip
import HandS.Conv
import HandS.CallSlots
import HandS.Head0
import HandS.Head1
import HandS.Head2
import HandS.HeadEnd
import HandS.HeadHook1
import HandS.HeadHook2
import HandS.HeadHook3
import HandS.HeadHook4
import PySem.Challenge.RW_stripelay_k02_threads_and_stripes
set_option Elab.async false
set_option linter.all false
set_option maxRecDepth 100000
set_option maxHeartbeats 0
namespace L2.Own
open PySem PySem.Spec PyProof.Rows

/-! ## a caught error that a name keeps behind its try -/
/-- an error object of the class cls, its dict d, at a -/
def errO (cls : Value) (d : Option Addr) (a : Addr) : HO :=
  .ext fun h => ∃ (oe : Obj) (vs : Array Value), h.get? a = some oe ∧ Zc cls d oe ∧ oe.data = .fields vs
section
variable {X : Cx} {pins : List (Addr × Obj)} {σ : St} {H : Hp} {s : Shared}
theorem errO_ok {P : Program} {w : World} {h : Heap} {a : Addr} {cls : Value} {d : Option Addr} {oe : Obj} {vs : Array Value}
    (he : h.get? a = some oe) (hz : Zc cls d oe) (hd : oe.data = .fields vs) : ObjOk P w H h a (errO cls d a) :=
  ⟨⟨oe, vs, he, hz, hd⟩, ⟨oe, he⟩, fun _ _ p k => let ⟨o, v, q, r⟩ := p; ⟨o, v, k o q, r⟩⟩
/-- an object that no state of the entry held, and that nothing tracks, may be tracked from now on -/
theorem track {a : Addr} {o : HO} {oa : Obj} (I : Inv X pins σ H s) (h0 : X.s_0.heap.get? a = none) (ha : s.heap.get? a = some oa)
    (hcell : ∀ v, oa.data ≠ .cell v) (hn : H a = none) (hL : a ≠ X.env.locals) (hp : ∀ p ∈ X.pn ++ pins, p.1 ≠ a)
    (ok : ObjOk X.prog X.w (upd H a o) s.heap a o) : Inv X pins σ (upd H a o) s := by
  have old : ∀ {b : Addr} {u : HO}, H b = some u → b ≠ a := fun e => ne_of_none e hn
  have old0 : ∀ {b : Addr} {u : Obj}, X.s_0.heap.get? b = some u → b ≠ a := fun {b u} e z => by
    rw [z, h0] at e
    cases e
  constructor
  · exact I.ok
  · exact I.os
  · exact I.bare
  · exact
      { keep := I.base.keep
        slot := I.base.slot
        free := fun b u e n hx => by
          rw [upd_ne (old0 e)]
          exact I.base.free b u e n hx
        there := I.base.there
        tups := fun b xs e => by
          have q := I.base.tups b xs e
          rw [upd_ne (old q)]
          exact q
        frzs := fun b u xs e => by
          have q := I.base.frzs b u xs e
          rw [upd_ne (old q)]
          exact q
        tbls := fun b ps e => by
          obtain ⟨m, q⟩ := I.base.tbls b ps e
          refine ⟨m, ?_⟩
          rw [upd_ne (old q)]
          exact q }
  · exact I.loc
  · exact I.cell
  · rw [upd_ne (Ne.symm hL)]
    exact I.free
  · intro x c e
    have hc : c ≠ a := fun z => by
      obtain ⟨v, u, hu, hd⟩ := I.cell x c e
      rw [z, ha] at hu
      cases hu
      exact hcell _ hd
    rw [upd_ne hc]
    exact I.freeC x c e
  · intro p hq
    obtain ⟨h1, h2, h3⟩ := I.pin p hq
    refine ⟨h1, ?_, h3⟩
    rw [upd_ne (hp p hq)]
    exact h2
  · intro b u e
    by_cases hb : b = a
    · subst hb
      rw [upd_same] at e
      cases e
      exact ok
    · rw [upd_ne hb] at e
      refine (I.hok b u e).stay (fun _ _ _ q => q) (fun c q => ?_) fun c xs q => ?_
      · rw [upd_ne (old q)]
        exact q
      · rw [upd_ne (old q)]
        exact q
  · exact I.len
end

/-- what «except x as n: suite» wishes, where the error is tracked behind the suite -/
def wKeep (K : PySem.W.Frag) (c : Value) (i : Nat) (ts : Addr → Value → Option Addr → TS) (Wout : WX) (D : Ends) : WX := fun cls d σ H =>
  ∃ b, PySem.W.exmOne K cls c = some b ∧
    (b = true → ∀ a, H a = none →
      ts a cls d { nx := fun σ' H' => D.nx (σ'.set i none) (upd H' a (errO cls d a)), rt := fun _ _ => False, bk := fun _ _ => False, ct := fun _ _ => False }
        (σ.set i (some (.ref a))) H) ∧
    (b = false → Wout cls d σ H)

section
variable {X : Cx} {x n : Str} {c : Value} {i : Nat} {body suite : List Stmt} {b₀ : Stmt} {np pos pos' : Pos} {tb : WX → TS}
  {ts : Addr → Value → Option Addr → TS} {Wout : WX}
theorem ps_try_keep (hs : X.stack = X.env :: X.outer) (hf : X.env.frame = some X.env.locals) (hex : X.ex = []) (hN : X.N.Nodup) (hi : X.N[i]? = some n)
    (hln : X.env.kindOf n = some .local) (hc : Names X x c) (tk : Takes X Wout)
    (hb : ∀ (W : WX) (pn : List (Addr × Obj)) (xe : Value → Shared → Prop), Takes (X.tr pn xe) W →
      PassesOwn (model X.prog X.w) X.A X.env xe → PSs (X.tr pn xe) body (tb W))
    (hsu : ∀ (a : Addr) (oe : Obj) (cls : Value) (d : Option Addr) (pn : List (Addr × Obj)), Zc cls d oe → (∃ vs, oe.data = .fields vs) →
      PSs (X.suite a ((a, oe) :: pn)) (b₀ :: suite) (ts a cls d)) :
    PS X (.Try body [.ExceptHandler (some (.Name x np)) (some n) (b₀ :: suite) pos'] [] [] pos)
      (fun D σ H => tb (wKeep X.K c i ts Wout D) D σ H) := by
  constructor
  intro pins s σ H D I h
  have ok := I.ok
  have hfr : X.A.frames = some (X.env :: X.outer) := by
    rw [ok.frames, hs]
  refine wpAny_Try_except ?_
  -- what is wanted of an error that leaves the body
  let XE' : Value → Shared → Prop := fun e s₁ => wpAny (model X.prog X.w) X.A (noteFrame e X.env)
    (fun _ s₂ => wpAny (model X.prog X.w) X.A (setFlight e none)
      (fun _ s₃ => wpAny (model X.prog X.w) X.A (handleBy e X.env [.ExceptHandler (some (.Name x np)) (some n) (b₀ :: suite) pos'])
        (SP X pins D) X.xe s₃) X.xe s₂) X.xe s₁
  have takes : Takes (X.tr (X.pn ++ pins) XE') (wKeep X.K c i ts Wout D) := by
    intro u s' xx
    obtain ⟨a, B, sI, pins', σ', H', cls, d, rfl, J', nb, up, sky, na, os, ag, b, hb1, hyes, hno⟩ := xx
    have J : Inv X pins σ' H' sI := J'.ofTry ok
    have Ba : B.get? a = none := by
      rcases sky with z | z | z
      · exact z.2.1
      · exact z.2.1
      · exact z.2.1
    show wpAny (model X.prog X.w) X.A (noteFrame (.ref a) X.env) _ _ _
    refine Sky.land (B := B) (Z := Zc cls d) Zc.steady hfr hf (by rw [← hs]; exact sky) fun h3 fl3 up3 => ?_
    have J3 : Inv X pins σ' H' { s' with heap := h3 } := J.landed nb fl3.1 (up.trans up3) os ag
    obtain ⟨oe3, vs3, he3, hz3, hd3⟩ := fl3.there
    have nfr : a ∉ frs (X.env :: X.outer) := fun hm => by
      obtain ⟨_, o', e', hnf⟩ := fl3.2.2.1.mem hm
      rw [he3] at e'
      cases e'
      exact hnf _ hd3
    have nL : a ≠ X.env.locals := fun z =>
      nfr (List.mem_filterMap.mpr ⟨X.env, List.mem_cons_self, by rw [hf, z]⟩)
    have nF : a ∉ X.fs := fun hm => by
      obtain ⟨e, he, q⟩ := List.mem_filterMap.mp hm
      exact nfr (List.mem_filterMap.mpr ⟨e, List.mem_cons_of_mem _ he, q⟩)
    -- the error is new to the state without it, so to the entry and to every pin
    have nI : sI.heap.get? a = none := by
      cases e : sI.heap.get? a with
      | none => rfl
      | some o =>
        have z := nb a o e (by rw [hs]; exact nfr)
        rw [Ba] at z
        cases z
    have n0 : X.s_0.heap.get? a = none := by
      cases e : X.s_0.heap.get? a with
      | none => rfl
      | some o =>
        obtain ⟨o', z⟩ := J.base.there a o e (by rw [hex]; exact fun y => nomatch y)
        rw [nI] at z
        cases z
    have npin : ∀ p ∈ X.pn ++ pins, p.1 ≠ a := fun p hp z => by
      have q := (J.pin p hp).1
      rw [z, nI] at q
      cases q
    have S3 := J3.suite he3 hd3 na nL nF
    refine wpAny_handleBy_cons (codeAny_handlers_test ?_) (fun q => nomatch q)
    have LT : PySem.W.Looks (model X.prog X.w) h3 (typeOf (.ref a)) cls := fun A Q E s k q =>
      wpAny_typeOf_ref (k _ _ he3) (by rw [hz3.1]; exact q)
    have LM := PySem.W.exm_one (M := model X.prog X.w) J3.kIn LT hb1
    have test : ∀ {Q : Value → Shared → Prop} {E : Value → Shared → Prop}, Q c { s' with heap := h3 } →
        wpAny (model X.prog X.w) (X.A.mark (some (.ref a))) (eval (.Name x np) X.env) Q E { s' with heap := h3 } := fun {Q E} q => by
      rcases hc with ⟨hg, hdbg, hm | ⟨hm, hv, hnn⟩⟩
      · exact ld_glob S3 hg hm q hdbg
      · exact ld_blt S3 hg hm hv q hnn hdbg
    refine test (LM.here ?_)
    cases b with
    | true =>
      refine codeAny_handlers_suite_as (HandSPX.lands_againZ fl3 fun h4 fl4 up4 => ?_)
      have J4 : Inv X pins σ' H' { s' with heap := h4 } := J.landed nb fl4.1 ((up.trans up3).trans up4) os ag
      obtain ⟨oe4, vs4, he4, hz4, hd4⟩ := fl4.there
      have S4 := J4.suite he4 hd4 na nL nF
      refine store_ok (X := X.suite a ((a, oe4) :: (X.pn ++ pins))) (v := .ref a) S4 hN hi (.inl hln) rfl (fun s5 S5 => ?_) (.inr hln)
      have run := (hsu a oe4 cls d (X.pn ++ pins) hz4 ⟨_, hd4⟩).run [] s5 _ H' _ S5 (hyes rfl a na)
      refine wpAny_mono run (fun f s6 hsp => ?_) (fun _ _ z => False.elim z)
      cases f with
      | next =>
        obtain ⟨σ6, H6, S6, q6⟩ := hsp
        obtain ⟨g6, n6, _⟩ := S6.pin (a, oe4) (List.mem_append_left _ List.mem_cons_self)
        have J6 : Inv X pins σ6 (upd H6 a (errO cls d a)) s6 := track (S6.unsuite ok) n0 g6
          (fun v z => by rw [hd4] at z; cases z) n6 nL npin (errO_ok g6 hz4 hd4)
        exact gone_ok J6 hN hi hln fun s7 J7 => ⟨_, _, J7, q6⟩
      | brk =>
        obtain ⟨_, _, _, q6⟩ := hsp
        exact q6.elim
      | cont =>
        obtain ⟨_, _, _, q6⟩ := hsp
        exact q6.elim
      | ret u =>
        obtain ⟨_, _, _, _, _, q6⟩ := hsp
        exact q6.elim
    | false =>
      show wpAny _ X.A (handleBy (.ref a) X.env []) _ _ _
      refine wpAny_handleBy_nil ?_
      obtain ⟨k1, k2, k3, oe, vs, T, oT, ts', he, hz, hd, h1, hr⟩ := id fl3
      unfold PySem.passOn
      refine wpAny_bind (wpAny_field he hd h1 ?_)
      rw [if_neg (show ¬ ((Value.ref T == Value.none) = true) by simp)]
      have fin : wpAny (model X.prog X.w) X.A (setFlight (.ref a) X.env.frame)
          (fun _ s4 => wpAny (model X.prog X.w) X.A (throw (.ref a) : Sem Flow) (SP X pins D) X.xe s4) X.xe { s' with heap := h3 } := by
        rw [hf]
        refine HandSPX.setFlight_upZ fl3 fun h4 hh4 up4 => wpAny_throw (tk _ _ ?_)
        refine ⟨a, B, sI, pins, σ', H', cls, d, rfl, J, nb, (up.trans up3).trans up4, .inr (.inr ?_), na, os, ag, hno rfl⟩
        rw [hs]
        exact hh4
      first
        | exact wpAny_bind (wpAny_pure (wpAny_bind fin))
        | exact wpAny_bind fin
  refine wpAny_mono ((hb _ (X.pn ++ pins) XE' takes PassesOwn.looking).run [] s σ H D (I.toTry _) h) (fun f s1 hsp => ?_) (fun e s1 he => he)
  cases f with
  | next =>
    obtain ⟨σ', H', J', q⟩ := hsp
    exact wpAny_execs_nil ⟨σ', H', J'.ofTry ok, q⟩
  | brk =>
    obtain ⟨σ', H', J', q⟩ := hsp
    exact ⟨σ', H', J'.ofTry ok, q⟩
  | cont =>
    obtain ⟨σ', H', J', q⟩ := hsp
    exact ⟨σ', H', J'.ofTry ok, q⟩
  | ret u =>
    obtain ⟨v, σ', H', J', r, q⟩ := hsp
    exact ⟨v, σ', H', J'.ofTry ok, r, q⟩
end

/-! ## isinstance of a tracked error -/
/-- isinstance(e, c): e a tracked error of the class at D without a dict -/
def rIsX (K : PySem.W.Frag) : List V → Hp → VK → Prop := fun xs H Q =>
  ∃ (a D : Addr) (c : V) (cv : Value) (b : Bool), xs = [.ref a, c] ∧ H a = some (errO (.ref D) none a) ∧ ExcC K D ∧ (∀ u, RelV c u → u = cv) ∧
    PySem.W.kitOne K (.ref D) cv = some b ∧ Q (.bl b) H
theorem call_isX {X : Cx} : CallR X (.builtin "isinstance") (rIsX X.K) := by
  intro pins s σ H xs us Q I r h
  obtain ⟨a, D, c, cv, b, rfl, ha, C, hcv, e, q⟩ := h
  obtain ⟨u1, u2, rfl, r1, r2⟩ := vals2 r
  cases (show u1 = Value.ref a from r1)
  have ec := hcv _ r2
  subst ec
  obtain ⟨⟨oe, vs, ho, hz, hd⟩, _, _⟩ := I.hok a _ ha
  have J : PySem.W.InstAt s.heap a oe D none := by
    obtain ⟨oc, od, oda, osl⟩ := oe
    obtain ⟨h1, h2⟩ := hz
    dsimp only at h1 h2 hd
    subst h1 h2 hd
    exact ⟨ho, rfl, rfl, trivial⟩
  exact PySem.W.kia_one (PySem.W.handS_kitx_exc C.hg C.hk C.hs C.hd C.ha C.hn C.ht C.hm) I.kIn J e (fun z => nomatch z)
    fun tk => ⟨.bl b, H, I.tok tk, rfl, q⟩

/-! ## list.count of truths -/
def bools (vs : List V) : Option (List Bool) := match vs with
  | [] => some []
  | .bl b :: r => (bools r).map (b :: ·)
  | _ => none
end L2.Own

namespace L2.Own
open PySem PySem.Spec PyProof.Rows

/-! ## enumerate of a tuple -/
abbrev tIt (t : Addr) : Obj := { cls := .type "tuple_iterator", data := .fields #[.ref t, .int 0 0] }
abbrev eIt (a : Addr) : Obj := { cls := .type "enumerate", data := .fields #[.none, .bool false, .ref a, rawInt 0, .none, .none] }
theorem enum_newT (t : Addr) (items : Array Value) :
    Meets (Builtin.«enumerate.__new__» ⟨[.type "enumerate", .ref t], []⟩) (fun _ R s => s.heap.IsTuple t items ∧
      R (.ok (.ret (.ref (s.heap.push (tIt t)).objs.size))) { s with heap := (s.heap.push (tIt t)).push (eIt s.heap.objs.size) }) :=
  .of_wp fun prog w A R s h => by
    obtain ⟨hp, g, d, tk, os⟩ := s
    obtain ⟨hl, h⟩ := h
    have hsub := sub_enumerate
    obtain ⟨ot, ho, hoc, n, hod⟩ := id hl
    have hL : Heap.IsTuple (Shared.heap ⟨hp, g, d, tk, os⟩) t items := hl
    wp_walk using wpAny_loadPart' ho
    refine wpAny_stack_any fun st => wpAny_pure ?_
    split
    · rename_i c _ _ _ _ _
      cases (c == Value.type "enumerate") <;>
        (wp_walk using wpAny_loadPart' ho, wpAny_pyIter_tuple hL
         exact ⟨_, rfl, h⟩)
    · wp_walk using wpAny_loadPart' ho, wpAny_pyIter_tuple hL
      exact ⟨_, rfl, h⟩
section
variable {prog : Program} {w : World} {A : Around} {E : Value → Shared → Prop} {s : Shared}
theorem call_enumT {t : Addr} {items : Array Value} {Q : Value → Shared → Prop} (hL : s.heap.IsTuple t items)
    (h : ∀ h', IsEnum h' (s.heap.objs.size + 1) s.heap.objs.size 0 .none → h'.IsTupleIter s.heap.objs.size t 0 →
      (∀ b o, s.heap.get? b = some o → h'.get? b = some o) → Q (.ref (s.heap.objs.size + 1)) { s with heap := h' }) :
    wpAny (model prog w) A (call (.type "enumerate") [.ref t]) Q E s := by
  refine callType_new F.called_enumerate (by decide) (F.typeCall_enumerate_1 _) (F.newCall_enumerate_1 _) (fun obj => F.args_object_init_2 obj _)
    F.entry_enumerate_new (enum_newT t items) ⟨hL, ?_⟩
  have hz : (s.heap.push (tIt t)).objs.size = s.heap.objs.size + 1 := Heap.size_push ..
  have he : ((s.heap.push (tIt t)).push (eIt s.heap.objs.size)).get? (s.heap.push (tIt t)).objs.size = some (eIt s.heap.objs.size) := Heap.get?_push_size _ rfl
  have hi : ((s.heap.push (tIt t)).push (eIt s.heap.objs.size)).get? s.heap.objs.size = some (tIt t) := Heap.get?_push_of_some _ (Heap.get?_push_size _ rfl)
  show _ ∧ _
  rw [hz]
  rw [hz] at he
  exact ⟨⟨_, he, rfl⟩, h _ he ⟨_, hi, rfl, rfl⟩ fun b o x => Heap.get?_push_of_some _ (Heap.get?_push_of_some _ x)⟩
end
/-- a tuple's items, each in a new pair behind its number -/
def ItE (K : PySem.W.Frag) (a : Addr) : It where
  go := fun i H => ∃ (xs : List V) (x : V), SqT K H a xs ∧ xs[i]? = some x
  yld := fun i H v H' => ∃ T x, v = .ref T ∧ H T = none ∧ H' = upd H T (.tup [.int (i : Nat), x]) ∧ ∀ xs, SqT K H a xs → xs[i]? = some x
  stop := fun i H => ∃ xs : List V, SqT K H a xs ∧ xs.length ≤ i
theorem turn_enumT {P : Program} {w : World} {K : PySem.W.Frag} {elts : List Expr} {kk : Nat} {tpos : Pos} (a e it : Addr) :
    Turn P w K (.Tuple elts kk tpos) (ItE K a) [e, it] e
      (fun i h => (∃ old, IsEnum h e it ((i : Nat) : Int) old) ∧ h.IsTupleIter it a i ∧ e ≠ it ∧ a ≠ it ∧ a ≠ e) where
  mem := List.mem_cons_self
  obj := fun i h st b hb => by
    obtain ⟨⟨old, he⟩, ⟨o, ho, hc, hd⟩, _⟩ := st
    rcases List.mem_cons.mp hb with z | z
    · rw [z]
      exact ⟨_, he, fun v q => nomatch q⟩
    · rw [List.mem_singleton.mp z]
      exact ⟨o, ho, fun v q => by rw [hd] at q; cases q⟩
  keep := fun i h h' st k => by
    obtain ⟨⟨old, he⟩, hi, hne⟩ := st
    exact ⟨⟨old, k e (by simp) _ he⟩, hi.at fun o q => k it (by simp) o q, hne⟩
  item := by
    intro X hP hw hK hc i pins s σ H E I hf st hg
    subst hP hw hK
    obtain ⟨⟨old, he⟩, hit, hne, nai, nae⟩ := st
    obtain ⟨xs, x, hq, hx⟩ := hg
    obtain ⟨its, rv, p, hz⟩ := I.tuple hq
    obtain ⟨u, hu, ru⟩ := rv.get hx
    have hlt : i < its.toArray.size := by
      have q := (List.getElem?_eq_some_iff.mp hu).1
      simpa using q
    have hel : e < s.heap.objs.size := Heap.lt_size he
    have hil : it < s.heap.objs.size := by
      obtain ⟨_, q, _⟩ := hit
      exact Heap.lt_size q
    have D : Draws X.prog X.w X.A.in1 it [it, a] its.toArray.size (fun i v => its.toArray[i]? = some v)
        (fun i h => h.IsTupleIter it a i ∧ h.IsTuple a its.toArray) := Draws.tuple (show X.A.in1.handled = none from I.ok.hd hc) it a nai its.toArray
    refine wpAny_pyNext_enum_itemD D he ⟨hit, p⟩ hlt hne (by simp [hne, Ne.symm nae]) fun y h' tk hy ho hst hT hsz hk => ?_
    have ey : y = u := by
      have q1 : its[i]? = some y := by simpa using hy
      rw [hu] at q1
      exact (Option.some.inj q1).symm
    subst ey
    refine ⟨_, rfl, wpAny_letOwnedTupleGo_enum (s := { s with heap := h', toks := tk + 1 }) ho fun h2 he' sb => ?_⟩
    have hT2 : h2.get? s.heap.objs.size = some { cls := .type "tuple", data := .seq #[.int i tk, y] } := (sb.2 _ (Nat.ne_of_gt hel)).trans hT
    have new : ObjOk X.prog X.w (upd H s.heap.objs.size (.tup [.int (i : Nat), x])) h2 s.heap.objs.size (.tup [.int (i : Nat), x]) :=
      ⟨by show 2 ≤ sizeLine; decide, [.int i tk, y], .cons ⟨_, rfl⟩ (.cons ru .nil), ⟨_, hT2, rfl, _, rfl⟩⟩
    have I1 : Inv X pins σ (upd H s.heap.objs.size (.tup [.int (i : Nat), x])) { s with heap := h2, toks := tk + 1 } := by
      refine I.turnedNew (ch := [e, it]) (fun b ob hb q => ?_) hf (Nat.le_refl _) new
      have nb : b ≠ e ∧ b ≠ it := by simpa using hb
      exact (sb.2 b nb.1).trans (hk b ob nb.1 nb.2 q)
    refine ⟨.ref s.heap.objs.size, _, I1, rfl, ⟨_, x, rfl, I.hok.fresh (Nat.le_refl _), rfl, fun ys hy => ?_⟩, ⟨⟨y, ?_⟩, ?_, hne, nai, nae⟩, fun b hb => ?_⟩
    · rw [I.tuple_inj hy hq]
      exact hx
    · rw [show ((i + 1 : Nat) : Int) = (i : Int) + 1 by omega]
      exact he'
    · exact hst.1.at fun o q => (sb.2 it (Ne.symm hne)).trans q
    · have hb' : b < s.heap.objs.size := by
        rcases List.mem_cons.mp hb with z | z
        · rw [z]
          exact hel
        · rw [List.mem_singleton.mp z]
          exact hil
      rw [upd_ne (Nat.ne_of_lt hb')]
      exact (hf b hb).1
  done := by
    intro X hP hw hK hc i pins s σ H E I hf st hg
    subst hP hw hK
    obtain ⟨⟨old, he⟩, hit, hne, nai, nae⟩ := st
    obtain ⟨xs, hq, hx⟩ := hg
    obtain ⟨its, rv, p, hz⟩ := I.tuple hq
    obtain ⟨f0, f1, f2, f3, f4, f5⟩ := hf it (by simp)
    have hl := rv.length
    have hge : its.toArray[i]? = none := by
      rw [List.getElem?_toArray]
      exact List.getElem?_eq_none (by omega)
    have hT : s.TypeIs (.ref e) "enumerate" := ⟨_, he, rfl⟩
    unfold pyNext
    refine wpAny_bind (wpAny_attempt (wpAny_callSpecial?_slot (name := Str.ofString "__next__") hT F.slot_enumerate_next
      (wpAny_call_entry F.slot_enumerate_next hT F.entry_enumerate_next ?_ (F.args_enumerate_next_1 _))))
    show wpAny _ _ (field (.ref e) 2 >>= _) _ _ _
    refine wpAny_bind (wpAny_field he rfl (x := .ref it) rfl ?_)
    refine wpAny_bind (wpAny_nextOf_tuple_end (I.ok.hd hc) hit p hge fun h' y eb hy => ?_)
    obtain ⟨o, ho, hoc⟩ := hy
    refine wpAny_bind (wpAny_isInstance (T := "StopIteration") (b := true) ⟨o, ho, hoc⟩ isSubtype_stop ?_)
    exact wpAny_pure ⟨rfl, I.turned (t' := s.toks) (fun b o hb q => eb b o hb q) f0 f1 f3 f4 f5⟩
  self := fun A i s Q E st h => let ⟨⟨_, he⟩, _⟩ := st; wpAny_pyIter_enum he h
def iEnumT (K : PySem.W.Frag) (ta : TA) : TI := fun σ H R => ta σ H fun vs H1 => ∃ a xs, vs = [.ref a] ∧ SqT K H1 a xs ∧ R (ItE K a) H1
theorem pi_enumT {X : Cx} {e : Expr} {ta : TA} {p pos tpos : Pos} {elts : List Expr} {kk : Nat} (hg : Gl X "enumerate") (hm : X.mg "enumerate" = none)
    (ha : PA X [e] ta) (hs : starEach [e] X.env = [(false, eval e X.env)] := by rfl) :
    PI X (.Tuple elts kk tpos) (.Call (.Name "enumerate" p) [e] [] pos) (iEnumT X.K ta) := by
  constructor
  intro pins s σ H R I h
  refine Call_ (ld_blt I hg hm boot_enumerate (PyProof.Rows.callWith_type1 (thn (ha.run pos pins s σ H _ I h) fun us s1 q1 => ?_) hs rfl))
  obtain ⟨vs, H1, I1, r1, a, xs, ex, hq, q⟩ := q1
  subst ex
  obtain ⟨u, rfl, ru⟩ := r1.one
  cases (show u = Value.ref a from ru)
  obtain ⟨its, rv, p', hz⟩ := I1.tuple hq
  have hlt : a < s1.heap.objs.size := by
    obtain ⟨o, ho, _⟩ := p'
    exact Heap.lt_size ho
  refine call_enumT (items := its.toArray) p' fun h' he hit hk => wpAny_pyIter_enum he ?_
  refine ⟨s1.heap.objs.size + 1, [s1.heap.objs.size + 1, s1.heap.objs.size], _, _, H1, rfl, I1.kept (t' := s1.toks) hk,
    turn_enumT a (s1.heap.objs.size + 1) s1.heap.objs.size, ⟨⟨.none, he⟩, hit, Nat.succ_ne_self _, Nat.ne_of_lt hlt, Nat.ne_of_lt (Nat.lt_succ_of_lt hlt)⟩,
    fun b hb => ?_, q⟩
  have hle : s1.heap.objs.size ≤ b := by
    rcases List.mem_cons.mp hb with z | z
    · rw [z]
      exact Nat.le_succ _
    · rw [List.mem_singleton.mp z]
      exact Nat.le_refl _
  exact I1.fpOk hle (I1.hok.fresh hle)
theorem walk_enumT {K : PySem.W.Frag} {a : Addr} {xs : List V} : Walk (ItE K a) xs.length (fun H => SqT K H a xs) (YPair (fun i => some (.int (i : Nat))) (fun i => xs[i]?)) := by
  refine ⟨fun i _ hi q => ⟨xs, xs[i], q, by simp [hi]⟩, fun _ q => ⟨xs, q, Nat.le_refl _⟩, fun i H v H' _ q y => ?_⟩
  obtain ⟨T, x, h1, h2, h3, h4⟩ := y
  exact ⟨T, .int (i : Nat), x, h1, h2, h3, rfl, h4 xs q⟩

/-! ## list.count(True) of truths -/
theorem reads_bools {h : Heap} : ∀ {bs : List Bool} {us : List Value}, Vals (bs.map V.bl) us → ∃ as, ReadsAll h us (bs.map PyData.bool) as
  | [], us, r => by
    cases r
    exact ⟨_, .nil⟩
  | b :: r, us, q => by
    cases q with
    | cons ru rr =>
      cases ru
      obtain ⟨as, z⟩ := reads_bools (h := h) rr
      exact ⟨_, .cons (Reads.bool b) z⟩
theorem all_bools : ∀ bs : List Bool, (bs.map PyData.bool).all Shape.bool.has = true
  | [] => rfl
  | b :: r => by
    rw [List.map_cons, List.all_cons, all_bools r]
    rfl
theorem countIn_bools (k : Bool) : ∀ bs : List Bool, countIn (.bool k) (bs.map PyData.bool) = ((bs.count k : Nat) : Int)
  | [] => rfl
  | b :: r => by
    rw [List.map_cons, countIn, countIn_bools k r, List.count_cons]
    cases b <;> cases k <;> simp [same] <;> omega
def rCntB (K : PySem.W.Frag) : V → List V → Hp → VK → Prop := fun x xs H Q =>
  ∃ (p : Addr) (bs : List Bool) (k : Bool), x = .ref p ∧ xs = [.bl k] ∧ SqL K H p (bs.map V.bl) ∧ Q (.int (bs.count k : Nat)) H
theorem mt_bcount {X : Cx} : MtR X "list.count" (rCntB X.K) := by
  intro pins s σ H x xs v us Q I rx rxs h
  obtain ⟨p, bs, k, rfl, rfl, hs, q⟩ := h
  cases rx
  obtain ⟨u, rfl, ru⟩ := rxs.one
  cases ru
  obtain ⟨its, rv, pl, hlen⟩ := I.list hs
  obtain ⟨as, ra⟩ := reads_bools (h := s.heap) rv
  refine count_list_bools pl.isList ra (all_bools bs) ?_
  rw [countIn_bools]
  exact ⟨.int (bs.count k : Nat), H, I.tok _, ⟨s.toks, rfl⟩, q⟩
end L2.Own

namespace Sl
open PySem PySem.Spec PyProof.Rows L2

/-! ## heaps: all but p as it was -/
def But (p : Addr) (H H' : Hp) : Prop := ∀ b o, b ≠ p → H b = some o → H' b = some o
theorem But.refl (p : Addr) (H : Hp) : But p H H := fun _ _ _ h => h
theorem But.trans {p : Addr} {H H1 H2 : Hp} (a : But p H H1) (b : But p H1 H2) : But p H H2 := fun c o n h => b c o n (a c o n h)
theorem But.of {p : Addr} {H H' : Hp} (s : Same H H') : But p H H' := fun b o _ h => s b o h
theorem same_new {H : Hp} {p : Addr} {o : HO} (hp : H p = none) : Same H (upd H p o) := fun b u e => by
  rw [upd_ne (ne_of_none e hp)]
  exact e
theorem But.upd {p : Addr} {H : Hp} {o : HO} : But p H (L2.upd H p o) := fun b u n e => by
  rw [upd_ne n]
  exact e
/-- tuples stay -/
def Tups (H H' : Hp) : Prop := ∀ b xs, H b = some (.tup xs) → H' b = some (.tup xs)
theorem Tups.refl (H : Hp) : Tups H H := fun _ _ h => h
theorem Tups.trans {H H1 H2 : Hp} (a : Tups H H1) (b : Tups H1 H2) : Tups H H2 := fun c o h => b c o (a c o h)
theorem Tups.of {H H' : Hp} (s : Same H H') : Tups H H' := fun b o h => s b _ h
theorem Tups.but {p : Addr} {H H' : Hp} {xs : List V} (hp : H p = some (.lst xs)) (s : But p H H') : Tups H H' := fun b o h => s b _ (fun e => by
  rw [e, hp] at h
  cases h) h
theorem Tups.put {p : Addr} {H : Hp} {xs : List V} {o : HO} (hp : H p = some (.lst xs)) : Tups H (L2.upd H p o) := Tups.but hp But.upd
/-- a list of one whole number, from which is drawn -/
def PoolAt (H : Hp) (p : Addr) : Prop := ∃ n : Int, H p = some (.lst [.int n])
theorem PoolAt.same {H H' : Hp} {p : Addr} (s : Same H H') (h : PoolAt H p) : PoolAt H' p := let ⟨n, e⟩ := h; ⟨n, s _ _ e⟩
theorem PoolAt.new {H : Hp} {p q : Addr} {o : HO} (hq : H q = none) (h : PoolAt H p) : PoolAt (L2.upd H q o) p := h.same (same_new hq)

/-! ## a list that a comprehension makes -/
structure LcAt (H : Hp) (D : Addr) (H' : Hp) (xs : List V) : Prop where
  it : H' D = some (.lst xs)
  same : Same H H'
  new : H D = none
theorem LcAt.start {H : Hp} {D : Addr} (h : H D = none) : LcAt H D (L2.upd H D (.lst [])) [] := ⟨upd_same, same_new h, h⟩
theorem LcAt.keep {H H' H4 : Hp} {D : Addr} {xs : List V} (h : LcAt H D H' xs) (s : Same H' H4) : LcAt H D H4 xs := ⟨s _ _ h.it, h.same.trans s, h.new⟩
theorem LcAt.push {H H' : Hp} {D : Addr} {xs : List V} {y : V} (h : LcAt H D H' xs) : LcAt H D (L2.upd H' D (.lst (xs ++ [y]))) (xs ++ [y]) :=
  ⟨upd_same, fun b o e => by
    rw [upd_ne (ne_of_none e h.new)]
    exact h.same b o e, h.new⟩
/-- the same while something is drawn from the list at p -/
structure LcP (p : Addr) (H : Hp) (D : Addr) (H' : Hp) (xs : List V) : Prop where
  it : H' D = some (.lst xs)
  but : But p H H'
  new : H D = none
  pool : PoolAt H' p
  ne : D ≠ p
theorem LcP.start {p : Addr} {H : Hp} {D : Addr} (h : H D = none) (hp : PoolAt H p) : LcP p H D (L2.upd H D (.lst [])) [] :=
  ⟨upd_same, But.of (same_new h), h, hp.new h, fun e => by
    obtain ⟨n, q⟩ := hp
    rw [e, q] at h
    cases h⟩
theorem LcP.keep {p : Addr} {H H' H4 : Hp} {D : Addr} {xs : List V} (h : LcP p H D H' xs) (s : But p H' H4) (q : PoolAt H4 p) : LcP p H D H4 xs := ⟨s _ _ h.ne h.it, h.but.trans s, h.new, q, h.ne⟩
theorem LcP.push {p : Addr} {H H' : Hp} {D : Addr} {xs : List V} {y : V} (h : LcP p H D H' xs) : LcP p H D (L2.upd H' D (.lst (xs ++ [y]))) (xs ++ [y]) :=
  ⟨upd_same, fun b o n e => by
    rw [upd_ne (ne_of_none e h.new)]
    exact h.but b o n e, h.new, by
    obtain ⟨m, q⟩ := h.pool
    exact ⟨m, by rw [upd_ne (Ne.symm h.ne)]; exact q⟩, h.ne⟩
theorem small {n : Nat} (h : n ≤ 100000) : n < sizeLine := Nat.lt_of_le_of_lt h (by decide)
theorem smallE {n : Nat} (h : n ≤ 100000) : n ≤ sizeLine := Nat.le_of_lt (small h)

/-! ## shades -/
def isSh (z : Str) : Bool := decide (1 ≤ z.cps.size ∧ z.cps.size ≤ 3) && z.cps.toList.all fun c => decide (97 ≤ c ∧ c ≤ 122)
def shV : V → Bool
  | .str z => isSh z
  | _ => false
theorem isSh_size {z : Str} (h : isSh z = true) : 1 ≤ z.cps.size ∧ z.cps.size ≤ 3 := by
  have h1 := (Bool.and_eq_true_iff.mp h).1
  exact of_decide_eq_true h1
theorem isSh_len {z : Str} (h : isSh z = true) : z.cps.size ≤ sizeLine := Nat.le_trans (isSh_size h).2 (by decide)
/-- a thing of one of the kinds that stand in the laws -/
inductive Th (H : Hp) : V → Prop where
  | non : Th H .non
  | bl (b : Bool) : Th H (.bl b)
  | int (i : Int) : Th H (.int i)
  | str (z : Str) (h : z.cps.size ≤ sizeLine) : Th H (.str z)
  | lst {a : Addr} {xs : List V} (h : H a = some (.lst xs)) : Th H (.ref a)
  | tup {a : Addr} {xs : List V} (h : H a = some (.tup xs)) : Th H (.ref a)
  | dic {a : Addr} {kvs : List (Key × V)} (h : H a = some (.dK kvs)) : Th H (.ref a)
theorem Th.same {H H' : Hp} {v : V} (s : Same H H') (h : Th H v) : Th H' v := by
  cases h with
  | non => exact .non
  | bl b => exact .bl b
  | int i => exact .int i
  | str z h => exact .str z h
  | lst h => exact .lst (s _ _ h)
  | tup h => exact .tup (s _ _ h)
  | dic h => exact .dic (s _ _ h)

/-! ## stripes as they lie in the heap -/
def Prs (H : Hp) : List V → List (Str × Nat) → Prop
  | [], [] => True
  | v :: vs, s :: l => (∃ a, v = .ref a ∧ H a = some (.tup [.str s.1, .int (s.2 : Nat)])) ∧ Prs H vs l
  | _, _ => False
theorem Prs.mono {H H' : Hp} (t : Tups H H') : ∀ {vs : List V} {l : List (Str × Nat)}, Prs H vs l → Prs H' vs l
  | [], [], _ => True.intro
  | [], _ :: _, h => h
  | _ :: _, [], h => h
  | v :: vs, s :: l, ⟨⟨a, e, h⟩, r⟩ => ⟨⟨a, e, t _ _ h⟩, Prs.mono t r⟩
theorem Prs.length {H : Hp} : ∀ {vs : List V} {l : List (Str × Nat)}, Prs H vs l → vs.length = l.length
  | [], [], _ => rfl
  | [], _ :: _, h => h.elim
  | _ :: _, [], h => h.elim
  | v :: vs, s :: l, ⟨_, r⟩ => congrArg Nat.succ (Prs.length r)
theorem Prs.get {H : Hp} : ∀ {vs : List V} {l : List (Str × Nat)} {i : Nat} {v : V}, Prs H vs l → vs[i]? = some v → ∃ a z n, v = .ref a ∧ l[i]? = some (z, n) ∧ H a = some (.tup [.str z, .int (n : Nat)])
  | [], [], i, v, _, e => by simp at e
  | [], _ :: _, _, _, h, _ => h.elim
  | _ :: _, [], _, _, h, _ => h.elim
  | u :: vs, s :: l, 0, v, ⟨⟨a, e, h⟩, r⟩, q => by
    have q' : u = v := by simpa using q
    subst q'
    exact ⟨a, s.1, s.2, e, rfl, h⟩
  | u :: vs, s :: l, i + 1, v, ⟨_, r⟩, q => by
    obtain ⟨a, z, n, e1, e2, e3⟩ := Prs.get (i := i) (v := v) r (by simpa using q)
    exact ⟨a, z, n, e1, by simpa using e2, e3⟩
theorem Prs.at {H : Hp} {vs : List V} {l : List (Str × Nat)} {i : Nat} {z : Str} {n : Nat} (h : Prs H vs l) (e : l[i]? = some (z, n)) : ∃ a, vs[i]? = some (.ref a) ∧ H a = some (.tup [.str z, .int (n : Nat)]) := by
  have hi : i < l.length := (List.getElem?_eq_some_iff.mp e).1
  have hv : i < vs.length := by rw [h.length]; exact hi
  obtain ⟨a, z', n', e1, e2, e3⟩ := h.get (List.getElem?_eq_getElem hv)
  rw [e] at e2
  cases e2
  exact ⟨a, by rw [List.getElem?_eq_getElem hv, e1], e3⟩
theorem Prs.snoc {H : Hp} {a : Addr} {z : Str} {n : Nat} (ha : H a = some (.tup [.str z, .int (n : Nat)])) : ∀ {vs : List V} {l : List (Str × Nat)}, Prs H vs l → Prs H (vs ++ [.ref a]) (l ++ [(z, n)])
  | [], [], _ => ⟨⟨a, rfl, ha⟩, True.intro⟩
  | [], _ :: _, h => h.elim
  | _ :: _, [], h => h.elim
  | v :: vs, s :: l, ⟨q, r⟩ => ⟨q, Prs.snoc ha r⟩
theorem Prs.set {H : Hp} {a : Addr} {z : Str} {n : Nat} (ha : H a = some (.tup [.str z, .int (n : Nat)])) : ∀ {vs : List V} {l : List (Str × Nat)} {j : Nat}, Prs H vs l → Prs H (vs.set j (.ref a)) (l.set j (z, n))
  | [], [], _, _ => True.intro
  | [], _ :: _, _, h => h.elim
  | _ :: _, [], _, h => h.elim
  | v :: vs, s :: l, 0, ⟨q, r⟩ => ⟨⟨a, rfl, ha⟩, r⟩
  | v :: vs, s :: l, j + 1, ⟨q, r⟩ => ⟨q, Prs.set ha r⟩

theorem Prs.snoc_of {H : Hp} {ps : List V} {m : List (Str × Nat)} {z : Str} {n : Nat} (h : Prs H ps (m ++ [(z, n)])) : ∃ qs a, ps = qs ++ [.ref a] ∧ Prs H qs m ∧ H a = some (.tup [.str z, .int (n : Nat)]) := by
  induction m generalizing ps with
  | nil =>
    match ps, h with
    | [v], ⟨⟨a, e, h1⟩, _⟩ => exact ⟨[], a, by rw [e]; rfl, True.intro, h1⟩
  | cons s m ih =>
    match ps, h with
    | v :: ps, ⟨q, r⟩ =>
      obtain ⟨qs, a, e1, e2, e3⟩ := ih r
      exact ⟨v :: qs, a, by rw [e1]; rfl, ⟨q, e2⟩, e3⟩
/-- the list at l, made anew, changed by place and behind -/
theorem LcAt.to {H H' : Hp} {D : Addr} {xs ys : List V} (h : LcAt H D H' xs) : LcAt H D (L2.upd H' D (.lst ys)) ys :=
  ⟨upd_same, fun b o e => by
    rw [upd_ne (ne_of_none e h.new)]
    exact h.same b o e, h.new⟩

/-! ## threads of stripes, and the fewest stripes of threads -/
def expand (l : List (Str × Nat)) : List Str := l.flatMap fun s => List.replicate s.2 s.1
def total (l : List (Str × Nat)) : Nat := (l.map (·.2)).sum
theorem expand_length : ∀ l : List (Str × Nat), (expand l).length = total l
  | [] => rfl
  | s :: l => by
    show (List.replicate s.2 s.1 ++ expand l).length = s.2 + total l
    rw [List.length_append, List.length_replicate, expand_length l]
theorem expand_append (l m : List (Str × Nat)) : expand (l ++ m) = expand l ++ expand m := by simp [expand]
theorem total_append (l m : List (Str × Nat)) : total (l ++ m) = total l + total m := by simp [total]
theorem expand_one (z : Str) (n : Nat) : expand [(z, n)] = List.replicate n z := by simp [expand]
theorem total_one (z : Str) (n : Nat) : total [(z, n)] = n := by simp [total]
theorem expand_mem {l : List (Str × Nat)} {z : Str} (h : z ∈ expand l) : ∃ n, (z, n) ∈ l := by
  obtain ⟨s, hs, hz⟩ := List.mem_flatMap.mp h
  have e := List.eq_of_mem_replicate hz
  subst e
  exact ⟨s.2, hs⟩
/-- one more thread behind stripes -/
def grow (l : List (Str × Nat)) (z : Str) : List (Str × Nat) := match l.getLast? with
  | some (y, n) => if y = z then l.dropLast ++ [(z, n + 1)] else l ++ [(z, 1)]
  | none => [(z, 1)]
def groups (zs : List Str) : List (Str × Nat) := zs.foldl grow []
theorem snoc_of_last {α : Type} {l : List α} {x : α} (h : l.getLast? = some x) : l = l.dropLast ++ [x] := by
  rcases List.eq_nil_or_concat l with e | ⟨m, y, e⟩
  · subst e
    simp at h
  · subst e
    simp at h
    subst h
    simp
theorem grow_expand (l : List (Str × Nat)) (z : Str) : expand (grow l z) = expand l ++ [z] := by
  unfold grow
  split
  · rename_i y n e
    have el := snoc_of_last e
    split
    · rename_i q
      subst q
      rw [expand_append, expand_one, List.replicate_succ']
      conv => rhs; rw [el, expand_append, expand_one]
      simp
    · rw [expand_append, expand_one]
      rfl
  · rename_i e
    have el : l = [] := List.getLast?_eq_none_iff.mp e
    subst el
    rfl
theorem foldl_grow_expand : ∀ (zs : List Str) (l : List (Str × Nat)), expand (zs.foldl grow l) = expand l ++ zs
  | [], l => by simp
  | z :: zs, l => by
    rw [List.foldl_cons, foldl_grow_expand zs, grow_expand]
    simp
theorem groups_expand (zs : List Str) : expand (groups zs) = zs := by
  unfold groups
  rw [foldl_grow_expand]
  rfl
/-- neighbours of unlike shades, counts from one on -/
def Apart : List (Str × Nat) → Prop
  | [] => True
  | [_] => True
  | s :: t :: l => s.1 ≠ t.1 ∧ Apart (t :: l)
theorem Apart.get : ∀ {l : List (Str × Nat)} {i : Nat} {s t : Str × Nat}, Apart l → l[i]? = some s → l[i + 1]? = some t → s.1 ≠ t.1
  | [], _, _, _, _, e, _ => by simp at e
  | [_], i, _, _, _, _, e => by simp at e
  | a :: b :: l, 0, s, t, h, e1, e2 => by
    have q1 : a = s := by simpa using e1
    have q2 : b = t := by simpa using e2
    subst q1 q2
    exact h.1
  | a :: b :: l, i + 1, s, t, h, e1, e2 => Apart.get (l := b :: l) (i := i) h.2 (by simpa using e1) (by simpa using e2)
theorem Apart.snoc : ∀ {l : List (Str × Nat)} {t : Str × Nat}, Apart l → (∀ s, l.getLast? = some s → s.1 ≠ t.1) → Apart (l ++ [t])
  | [], _, _, _ => True.intro
  | [a], t, _, h => ⟨h a rfl, True.intro⟩
  | a :: b :: l, t, q, h => ⟨q.1, Apart.snoc (l := b :: l) q.2 fun s e => h s (by rw [List.getLast?_cons_cons]; exact e)⟩
theorem Apart.init : ∀ {l : List (Str × Nat)} {t : Str × Nat}, Apart (l ++ [t]) → Apart l
  | [], _, _ => True.intro
  | [a], _, _ => True.intro
  | a :: b :: l, t, q => ⟨q.1, Apart.init (l := b :: l) q.2⟩
theorem Apart.last : ∀ {l : List (Str × Nat)} {t s : Str × Nat}, Apart (l ++ [t]) → l.getLast? = some s → s.1 ≠ t.1
  | [], _, _, _, e => by simp at e
  | [a], t, s, q, e => by
    have : a = s := by simpa using e
    subst this
    exact q.1
  | a :: b :: l, t, s, q, e => Apart.last (l := b :: l) q.2 (by rw [List.getLast?_cons_cons] at e; exact e)
theorem grow_apart {l : List (Str × Nat)} {z : Str} (h : Apart l) : Apart (grow l z) := by
  unfold grow
  split
  · rename_i y n e
    have el := snoc_of_last e
    split
    · rename_i q
      subst q
      have h' : Apart (l.dropLast ++ [(y, n)]) := by rw [← el]; exact h
      exact Apart.snoc h'.init fun s hs => h'.last hs
    · rename_i q
      exact Apart.snoc h fun s hs => by
        rw [e] at hs
        cases hs
        exact q
  · exact True.intro
def Pos (l : List (Str × Nat)) : Prop := ∀ s ∈ l, 1 ≤ s.2
theorem grow_pos {l : List (Str × Nat)} {z : Str} (h : Pos l) : Pos (grow l z) := by
  unfold grow
  split
  · rename_i y n e
    split
    · intro s hs
      rcases List.mem_append.mp hs with q | q
      · exact h s (List.dropLast_subset _ q)
      · rw [List.mem_singleton.mp q]
        exact Nat.le_add_left _ _
    · intro s hs
      rcases List.mem_append.mp hs with q | q
      · exact h s q
      · rw [List.mem_singleton.mp q]
        exact Nat.le_refl _
  · intro s hs
    rw [List.mem_singleton.mp hs]
    exact Nat.le_refl _
theorem foldl_apart : ∀ (zs : List Str) {l : List (Str × Nat)}, Apart l → Pos l → Apart (zs.foldl grow l) ∧ Pos (zs.foldl grow l)
  | [], _, h, p => ⟨h, p⟩
  | z :: zs, _, h, p => foldl_apart zs (grow_apart h) (grow_pos p)
theorem groups_apart (zs : List Str) : Apart (groups zs) := (foldl_apart zs (l := []) True.intro fun _ h => nomatch h).1
theorem groups_pos (zs : List Str) : Pos (groups zs) := (foldl_apart zs (l := []) True.intro fun _ h => nomatch h).2
theorem Pos.length_le : ∀ {l : List (Str × Nat)}, Pos l → l.length ≤ total l
  | [], _ => Nat.le_refl _
  | s :: l, h => by
    have h1 := h s List.mem_cons_self
    have h2 := Pos.length_le (l := l) fun t ht => h t (List.mem_cons_of_mem _ ht)
    show l.length + 1 ≤ s.2 + total l
    omega
theorem groups_total (zs : List Str) : total (groups zs) = zs.length := by rw [← expand_length, groups_expand]
theorem groups_length (zs : List Str) : (groups zs).length ≤ zs.length := by
  have h := (groups_pos zs).length_le
  rw [groups_total] at h
  exact h
theorem groups_mem {zs : List Str} {s : Str × Nat} (h : s ∈ groups zs) : s.1 ∈ zs := by
  have hp := groups_pos zs s h
  have hm : s.1 ∈ expand (groups zs) := List.mem_flatMap.mpr ⟨s, h, List.mem_replicate.mpr ⟨by omega, rfl⟩⟩
  rw [groups_expand] at hm
  exact hm
theorem groups_snoc (zs : List Str) (z : Str) : groups (zs ++ [z]) = grow (groups zs) z := by
  unfold groups
  rw [List.foldl_append]
  rfl
theorem groups_nonempty {zs : List Str} (h : zs ≠ []) : groups zs ≠ [] := fun e => h (by rw [← groups_expand zs, e]; rfl)
theorem take_more {α : Type} {l : List α} {i : Nat} {x : α} (h : l[i]? = some x) : l.take (i + 1) = l.take i ++ [x] := by
  rw [List.take_add_one, h]
  rfl
end Sl

namespace L2.Own
open PySem PySem.Spec PyProof.Rows
section
variable {J : It} {n : Nat} {G : Hp → Prop} {Y : Nat → Hp → V → Hp → Prop}
/-- a walk within a comprehension's turn, from any heap -/
theorem lc_in (w : Walk J n G Y) {g : TG} {tt : TT} {te : TE} {vs : List Nat} {σ : St} {H1 : Hp} {D : Addr} {Qd : Hp → Prop} (Pv : Nat → Hp → Prop) (h0 : Pv 0 H1) (hG : ∀ i H, i ≤ n → Pv i H → G H)
    (hs : ∀ i x H H', i < n → Pv i H → Y i H x H' → g x (wipe σ vs) H' fun σ2 H2 => wipe σ2 vs = wipe σ vs ∧ tt σ2 H2 fun b H3 =>
      if b = true then te σ2 H3 fun y H4 => ∃ acc, H4 D = some (.lst acc) ∧ acc.length < sizeLine ∧ Pv (i + 1) (upd H4 D (.lst (acc ++ [y]))) else Pv (i + 1) H3) (hd : ∀ H, Pv n H → Qd H) :
    ∃ W : Nat → Nat → Hp → Prop, (∃ m, W 0 m H1) ∧ ∀ i m H, W i m H →
      (J.stop i H ∧ Qd H) ∨ (J.go i H ∧ ∃ Nx : Hp → Prop, (∀ H', Nx H' → ∃ m', m' < m ∧ W (i + 1) m' H') ∧ ∀ x H', J.yld i H x H' → g x (wipe σ vs) H' fun σ2 H2 => wipe σ2 vs = wipe σ vs ∧ tt σ2 H2 fun b H3 =>
        if b = true then te σ2 H3 fun y H4 => ∃ acc, H4 D = some (.lst acc) ∧ acc.length < sizeLine ∧ Nx (upd H4 D (.lst (acc ++ [y]))) else Nx H3) := by
  refine ⟨fun i m H => m = n - i ∧ i ≤ n ∧ Pv i H, ⟨n, by simp, Nat.zero_le _, h0⟩, ?_⟩
  rintro i m H ⟨rfl, hi, p⟩
  have q := hG i H hi p
  by_cases hlt : i < n
  · refine .inr ⟨w.goes i H hlt q, Pv (i + 1), fun H' p' => ⟨n - (i + 1), by omega, rfl, hlt, p'⟩, fun x H' y => hs i x H H' hlt p (w.yields i H x H' hlt q y)⟩
  · have e : i = n := by omega
    subst e
    exact .inl ⟨w.stops H q, hd H p⟩
/-- a comprehension with two fors, the outer walk: Pv by its turn and the heap -/
theorem lc2_it (w : Walk J n G Y) {g : TG} {tt : TT} {wi1 : TI} {g1 : TG} {tt1 : TT} {te : TE} {vs vs1 : List Nat} {σ : St} {H1 : Hp} {D : Addr} {Qd : Hp → Prop} (Pv : Nat → Hp → Prop) (h0 : Pv 0 (upd H1 D (.lst []))) (hG : ∀ i H, i ≤ n → Pv i H → G H)
    (hs : ∀ i x H H', i < n → Pv i H → Y i H x H' → g x (wipe σ vs) H' fun σ2 H2 => wipe σ2 vs = wipe σ vs ∧ tt σ2 H2 fun b H3 =>
      if b = true then wi1 σ2 H3 fun J1 H4 => ∃ W1 : Nat → Nat → Hp → Prop, (∃ m, W1 0 m H4) ∧ ∀ j k H, W1 j k H →
        (J1.stop j H ∧ Pv (i + 1) H) ∨ (J1.go j H ∧ ∃ Nx1 : Hp → Prop, (∀ H', Nx1 H' → ∃ k', k' < k ∧ W1 (j + 1) k' H') ∧ ∀ x H', J1.yld j H x H' → g1 x (wipe σ2 vs1) H' fun σ3 H5 => wipe σ3 vs1 = wipe σ2 vs1 ∧ tt1 σ3 H5 fun b H6 =>
          if b = true then te σ3 H6 fun y H7 => ∃ acc, H7 D = some (.lst acc) ∧ acc.length < sizeLine ∧ Nx1 (upd H7 D (.lst (acc ++ [y]))) else Nx1 H6)
      else Pv (i + 1) H3) (hd : ∀ H, Pv n H → Qd H) :
    ∃ W : Nat → Nat → Hp → Prop, (∃ m, W 0 m (upd H1 D (.lst []))) ∧ ∀ i m H, W i m H →
      (J.stop i H ∧ Qd H) ∨ (J.go i H ∧ ∃ Nx : Hp → Prop, (∀ H', Nx H' → ∃ m', m' < m ∧ W (i + 1) m' H') ∧ ∀ x H', J.yld i H x H' → g x (wipe σ vs) H' fun σ2 H2 => wipe σ2 vs = wipe σ vs ∧ tt σ2 H2 fun b H3 =>
        if b = true then wi1 σ2 H3 fun J1 H4 => ∃ W1 : Nat → Nat → Hp → Prop, (∃ m, W1 0 m H4) ∧ ∀ j k H, W1 j k H →
          (J1.stop j H ∧ Nx H) ∨ (J1.go j H ∧ ∃ Nx1 : Hp → Prop, (∀ H', Nx1 H' → ∃ k', k' < k ∧ W1 (j + 1) k' H') ∧ ∀ x H', J1.yld j H x H' → g1 x (wipe σ2 vs1) H' fun σ3 H5 => wipe σ3 vs1 = wipe σ2 vs1 ∧ tt1 σ3 H5 fun b H6 =>
            if b = true then te σ3 H6 fun y H7 => ∃ acc, H7 D = some (.lst acc) ∧ acc.length < sizeLine ∧ Nx1 (upd H7 D (.lst (acc ++ [y]))) else Nx1 H6)
        else Nx H3) := by
  refine ⟨fun i m H => m = n - i ∧ i ≤ n ∧ Pv i H, ⟨n, by simp, Nat.zero_le _, h0⟩, ?_⟩
  rintro i m H ⟨rfl, hi, p⟩
  have q := hG i H hi p
  by_cases hlt : i < n
  · refine .inr ⟨w.goes i H hlt q, Pv (i + 1), fun H' p' => ⟨n - (i + 1), by omega, rfl, hlt, p'⟩, fun x H' y => hs i x H H' hlt p (w.yields i H x H' hlt q y)⟩
  · have e : i = n := by omega
    subst e
    exact .inl ⟨w.stops H q, hd H p⟩
end
end L2.Own
namespace L2.Own
open PySem PySem.Spec PyProof.Rows
/-! the rules whose reading names the written part, with that part told: for the elements of comprehensions -/
section
variable {X : Cx} {K : PySem.W.Frag}
theorem op_notIn_seqK (h : X.K = K) : OpR X (compareOp .NotIn) (rIn K true) := h ▸ op_notIn_seq
theorem op_in_seqK (h : X.K = K) : OpR X (compareOp .In) (rIn K false) := h ▸ op_in_seq
theorem ix_listK (h : X.K = K) : IxR X (rIxL K) := h ▸ ix_list
theorem ix_tupK (h : X.K = K) : IxR X (rIxT K) := h ▸ ix_tup
end
end L2.Own

namespace L2.Own
open PySem PySem.Spec PyProof.Rows Sl
section
variable {X : Cx} {K : PySem.W.Frag}
theorem op_catAK (h : X.K = K) : OpR X (binaryOp .Add) (rCatA K) := h ▸ op_catA
theorem call_lenK (h : X.K = K) : CallR X (.builtin "len") (fun xs H Q => ∃ x n, xs = [x] ∧ LenV K x H n ∧ Q (.int n) H) := h ▸ call_len
theorem sl_tupAK (h : X.K = K) : SlR X (rSlA K) := h ▸ sl_tupA
end
section
variable {K : PySem.W.Frag} {H : Hp} {a b : Addr} {xs ys : List V} {Q : VK}
theorem cutV_whole {lo hi : Option Int} (h : HT.sIx xs.length 0 lo = 0 ∧ HT.sIx xs.length xs.length hi = xs.length) : cutV xs lo hi = xs := by
  unfold cutV
  rw [h.1, h.2, List.drop_zero, Nat.sub_zero, List.take_length]
/-- t[lo:hi], be it t itself or a new one -/
theorem slA_of {lo hi : Option Int} (ha : H a = some (.tup xs)) (q : ∀ H' r, Same H H' → H' r = some (.tup (cutV xs lo hi)) → Q (.ref r) H') : rSlA K (.ref a) lo hi H Q :=
  ⟨a, xs, rfl, SqT.of ha, fun h => q H a (Same.refl H) (by rw [cutV_whole h]; exact ha), fun _ p hp => q _ p (same_new hp) upd_same⟩
/-- t + u, be it one of them or a new one -/
theorem catA_of (ha : H a = some (.tup xs)) (hb : H b = some (.tup ys)) (hz : xs.length + ys.length ≤ sizeLine) (q : ∀ H' r, Same H H' → H' r = some (.tup (xs ++ ys)) → Q (.ref r) H') : rCatA K (.ref a) (.ref b) H Q :=
  ⟨a, b, xs, ys, rfl, rfl, SqT.of ha, SqT.of hb, hz, fun e => q H b (Same.refl H) (by rw [e]; exact hb), fun _ e => q H a (Same.refl H) (by rw [e, List.append_nil]; exact ha), fun _ _ p hp => q _ p (same_new hp) upd_same⟩
end
end L2.Own
namespace Sl
open PySem PySem.Spec PyProof.Rows L2
/-! ## kinds stay -/
structure Kin (H H' : Hp) : Prop where
  tup : ∀ a xs, H a = some (.tup xs) → H' a = some (.tup xs)
  lst : ∀ a xs, H a = some (.lst xs) → ∃ ys, H' a = some (.lst ys)
  dic : ∀ a kvs, H a = some (.dK kvs) → ∃ ks, H' a = some (.dK ks)
theorem Kin.of {H H' : Hp} (s : Same H H') : Kin H H' := ⟨fun a xs h => s _ _ h, fun a xs h => ⟨xs, s _ _ h⟩, fun a k h => ⟨k, s _ _ h⟩⟩
theorem Kin.trans {H H1 H2 : Hp} (a : Kin H H1) (b : Kin H1 H2) : Kin H H2 :=
  ⟨fun c xs h => b.tup _ _ (a.tup _ _ h), fun c xs h => let ⟨ys, q⟩ := a.lst _ _ h; b.lst _ _ q, fun c xs h => let ⟨ys, q⟩ := a.dic _ _ h; b.dic _ _ q⟩
theorem Kin.put {H : Hp} {p : Addr} {xs ys : List V} (h : H p = some (.lst xs)) : Kin H (L2.upd H p (.lst ys)) := by
  refine ⟨fun a zs e => ?_, fun a zs e => ?_, fun a zs e => ?_⟩
  · rw [upd_ne (fun q => by rw [q, h] at e; cases e)]
    exact e
  · by_cases q : a = p
    · rw [q]
      exact ⟨ys, upd_same⟩
    · exact ⟨zs, by rw [upd_ne q]; exact e⟩
  · rw [upd_ne (fun q => by rw [q, h] at e; cases e)]
    exact ⟨zs, e⟩
theorem Kin.but {H H' : Hp} {p : Addr} (hp : PoolAt H p) (hp' : PoolAt H' p) (b : But p H H') : Kin H H' := by
  obtain ⟨n, h⟩ := hp
  obtain ⟨n', h'⟩ := hp'
  refine ⟨fun a zs e => ?_, fun a zs e => ?_, fun a zs e => ?_⟩
  · exact b _ _ (fun q => by rw [q, h] at e; cases e) e
  · by_cases q : a = p
    · rw [q]
      exact ⟨_, h'⟩
    · exact ⟨zs, b _ _ q e⟩
  · exact ⟨zs, b _ _ (fun q => by rw [q, h] at e; cases e) e⟩
theorem Th.kin {H H' : Hp} {v : V} (s : Kin H H') (h : Th H v) : Th H' v := by
  cases h with
  | non => exact .non
  | bl b => exact .bl b
  | int i => exact .int i
  | str z h => exact .str z h
  | lst h =>
    obtain ⟨ys, q⟩ := s.lst _ _ h
    exact .lst q
  | tup h => exact .tup (s.tup _ _ h)
  | dic h =>
    obtain ⟨ys, q⟩ := s.dic _ _ h
    exact .dic q
end Sl

namespace L2.Own
open PySem PySem.Spec PyProof.Rows Sl
/-! ## t[::-1] of a tuple -/
theorem rev_places (n : Nat) : Builtin.Slice.sliceAdjust none none (-1) (n : Int) = ((n : Int) - 1, -1) ∧ Builtin.Slice.slicePlaces ((n : Int) - 1) (-1) (-1) = n := by
  constructor
  · rfl
  · unfold Builtin.Slice.slicePlaces
    rw [if_neg (by decide)]
    by_cases h : (n : Int) - 1 > -1
    · rw [if_pos h, show (- -1 : Int) = 1 by decide, Int.ediv_one]; omega
    · rw [if_neg h]; omega
theorem fm_congr {α β : Type} {f g : α → Option β} : ∀ {l : List α}, (∀ a ∈ l, f a = g a) → l.filterMap f = l.filterMap g
  | [], _ => rfl
  | a :: l, h => by
    rw [List.filterMap_cons, List.filterMap_cons, h a List.mem_cons_self, fm_congr fun b hb => h b (List.mem_cons_of_mem _ hb)]
theorem rev_pick (xs : Array Value) : ((List.range xs.size).filterMap fun (k : Nat) => xs[((xs.size : Int) - 1 + (k : Int) * -1).toNat]?) = xs.toList.reverse := by
  have e : ((List.range xs.size).filterMap fun (k : Nat) => xs[((xs.size : Int) - 1 + (k : Int) * -1).toNat]?) = (List.range xs.size).filterMap fun k => xs.toList.reverse[k]? := by
    refine fm_congr fun k hk => ?_
    have hk' := List.mem_range.mp hk
    rw [List.getElem?_reverse (by rw [Array.length_toList]; exact hk'), Array.length_toList, Array.getElem?_toList]
    congr 1
    omega
  rw [e]
  have hl : xs.size = xs.toList.reverse.length := by rw [List.length_reverse, Array.length_toList]
  rw [hl]
  generalize xs.toList.reverse = ys
  induction ys with
  | nil => rfl
  | cons y ys ih =>
    rw [List.length_cons, List.range_succ_eq_map, List.filterMap_cons, List.filterMap_map]
    have e2 : ((fun k => (y :: ys)[k]?) ∘ Nat.succ) = fun k => ys[k]? := rfl
    rw [e2, ih]
    rfl
section
variable {prog : Program} {w : World} {A : Around} {E : Value → Shared → Prop} {s : Shared}
theorem sliceApplied_rev {sl : Addr} {v1 v2 v3 : Value} {n : Nat} {Q : Int × Int × Nat → Shared → Prop} (hs : s.heap.IsSliceOf sl v1 v2 v3) (p1 : IsPart v1 none) (p2 : IsPart v2 none) (p3 : IsPart v3 (some (-1)))
    (hq : Q ((n : Int) - 1, -1, n) s) : wpAny (model prog w) A (Builtin.Slice.sliceApplied (.ref sl) (pure (n : Int))) Q E s := by
  obtain ⟨ob, hob, _, hdt⟩ := id hs
  unfold Builtin.Slice.sliceApplied Builtin.Slice.sliceFields
  refine wpAny_bind (wpAny_bind (wpAny_field hob hdt (x := v1) rfl (wpAny_bind (wpAny_field hob hdt (x := v2) rfl (wpAny_bind (wpAny_field hob hdt (x := v3) rfl (wpAny_pure ?_)))))))
  refine wpAny_bind (HT.slicePart_ p3 ?_)
  show wpAny _ _ (if ((-1 : Int) == 0) = true then _ else _) _ _ s
  rw [if_neg (by decide)]
  refine wpAny_bind (HT.slicePart_ p1 (wpAny_bind (HT.slicePart_ p2 (wpAny_bind (wpAny_pure ?_)))))
  show wpAny _ _ (match Builtin.Slice.sliceAdjust none none (-1) (n : Int) with | (lo, hi) => pure (lo, (-1 : Int), Builtin.Slice.slicePlaces lo hi (-1))) _ _ s
  rw [(rev_places n).1]
  show wpAny _ _ (pure ((n : Int) - 1, (-1 : Int), Builtin.Slice.slicePlaces ((n : Int) - 1) (-1) (-1))) _ _ s
  rw [(rev_places n).2]
  exact wpAny_pure hq
theorem getItem_tuple_rev {t sl : Addr} {xs : Array Value} {v1 v2 v3 : Value} {Q : Value → Shared → Prop} (ht : IsTup s.heap t xs) (hs : s.heap.IsSliceOf sl v1 v2 v3) (p1 : IsPart v1 none) (p2 : IsPart v2 none) (p3 : IsPart v3 (some (-1)))
    (hq : Q (.ref s.heap.objs.size) { s with heap := s.heap.push { cls := .type "tuple", data := .seq xs.toList.reverse.toArray } }) (hz : xs.size ≤ sizeLine) : wpAny (model prog w) A (getItem (.ref t) (.ref sl)) Q E s := by
  have fits : sizeOk (.seq xs.toList.reverse.toArray) := by
    show xs.toList.reverse.toArray.size ≤ sizeLine
    rw [List.size_toArray, List.length_reverse, Array.length_toList]
    exact hz
  obtain ⟨ob, hob, hcl, _⟩ := id hs
  have hT : s.TypeIs (.ref sl) "slice" := ⟨ob, hob, hcl⟩
  unfold getItem
  try with_reducible refine wpAny_holding ?_
  first | refine wpAny_bind (wpAny_pure ?_) | skip
  refine wpAny_bind (wpAny_sequenceKey (ht.typeIs) (by decide) (wpAny_bind (wpAny_callSpecial?_slot (name := Str.ofString "__getitem__") ht.typeIs PyProof.Rows.slot_tuple_getitem (wpAny_call_entry PyProof.Rows.slot_tuple_getitem ht.typeIs PyProof.Rows.entry_tuple_getitem ?_ (PyProof.Rows.args_tuple_getitem _ _)))))
  show wpAny _ _ (Builtin.Tuple.tupleItemsOf (.ref t) >>= _) _ _ s
  refine wpAny_bind (PyProof.Rows.tupleItemsOf_ ht (wpAny_bind (wpAny_typeOf hT ?_)))
  rw [if_pos (by decide)]
  refine wpAny_bind (sliceApplied_rev (n := xs.size) hs p1 p2 p3 ?_)
  have no : ¬ ((((xs.size : Int) - 1) == 0 && (-1 : Int) == 1 && xs.size == xs.size) = true) := by
    rw [show ((-1 : Int) == 1) = false by decide, Bool.and_false, Bool.false_and]
    exact Bool.false_ne_true
  show wpAny _ _ (if (((xs.size : Int) - 1) == 0 && (-1 : Int) == 1 && xs.size == xs.size) = true then _ else _) _ _ s
  rw [if_neg no, rev_pick]
  first
    | exact wpAny_bind (m := Builtin.Tuple.tupleExact _) (wpAny_newObj_type (wpAny_pure ⟨_, rfl, wpAny_pure hq⟩) fits)
    | exact wpAny_bind (m := Builtin.Tuple.tupleExact _) (wpAny_newObj_type (wpAny_bind (wpAny_pure (wpAny_pure ⟨_, rfl, wpAny_pure hq⟩))) fits)
    | exact wpAny_bind (wpAny_bind (m := Builtin.Tuple.tupleExact _) (wpAny_newObj_type (wpAny_pure (wpAny_pure ⟨_, rfl, wpAny_pure hq⟩)) fits))
    | exact wpAny_bind (wpAny_bind (m := Builtin.Tuple.tupleExact _) (wpAny_newObj_type (wpAny_pure ⟨_, rfl, wpAny_pure hq⟩) fits))
end
section
variable {X : Cx}
def tRevT (K : PySem.W.Frag) (te : TE) : TE := fun σ H Q => te σ H fun x H1 => ∃ a xs, x = .ref a ∧ SqT K H1 a xs ∧ ∀ p, H1 p = none → Q (.ref p) (upd H1 p (.tup xs.reverse))
theorem pe_revT {e : Expr} {te : TE} {k : Nat} {p1 p2 p3 pos : Pos} (he : PE X e te) : PE X (.Subscript e (.Slice none none (some (.UnaryOp .USub (.Constant (.int 1) k p1) p2)) p3) pos) (tRevT X.K te) := by
  refine ⟨fun pins s σ H Q I hh => ?_⟩
  refine Subscript_ (thn (he.run pins s σ H _ I hh) fun v s1 ⟨x, H1, I1, r1, a, xs, ex, hx, q⟩ => ?_)
  subst ex
  cases r1
  have step : PO X (some (.UnaryOp .USub (.Constant (.int 1) k p1) p2)) (tPart (tUn (rU fun i => .int (-i)) (tC (.int 1)))) := po_some (pe_un un_neg pe_int)
  refine wpAny_Slice (thn (po_none.run pins s1 σ H1 (fun o H2 => o = none ∧ H2 = H1) I1 ⟨rfl, rfl⟩) fun w1 s2 ⟨o1, H2, I2, q1, e1, f1⟩ => ?_)
  subst e1 f1
  refine thn (po_none.run pins s2 σ H2 (fun o H3 => o = none ∧ H3 = H2) I2 ⟨rfl, rfl⟩) fun w2 s3 ⟨o2, H3, I3, q2, e2, f2⟩ => ?_
  subst e2 f2
  refine thn (step.run pins s3 σ H3 (fun o H4 => o = some (-1) ∧ H4 = H3) I3 ⟨1, rfl, -1, rfl, rfl, rfl⟩) fun w3 s4 ⟨o3, H4, I4, q3, e3, f3⟩ => ?_
  subst e3 f3
  have I5 : Inv X pins σ H4 { s4 with heap := s4.heap.push { cls := .type "slice", data := .fields #[w1, w2, w3] } } := I4.kept (t' := s4.toks) fun b ob z => Heap.get?_push_of_some _ z
  obtain ⟨its, r, ht, hz⟩ := I5.tuple hx
  have hlen := r.length
  show wpAny (model X.prog X.w) X.A (subscriptTail e (.Slice none none (some (.UnaryOp .USub (.Constant (.int 1) k p1) p2)) p3) (.ref a) (.ref s4.heap.objs.size)) (EP X pins σ Q) X.xe { s4 with heap := s4.heap.push { cls := .type "slice", data := .fields #[w1, w2, w3] } }
  refine tail_any (ops := [.ref a, .ref s4.heap.objs.size]) ht.typeIs (PyProof.Rows.slot_tuple_getitem.lookup) ?_ (by with_unfolding_all rfl)
  refine getItem_tuple_rev ht (Heap.IsSliceOf.new _ w1 w2 w3) q1 q2 q3 ?_ (by rw [List.size_toArray]; omega)
  refine ⟨.ref _, _, I5.laid (t' := s4.toks) (o := .tup xs.reverse) (fun b ob z => Heap.get?_push_of_some _ z) (Nat.le_refl _) ?_, rfl, q _ (I5.hok.fresh (Nat.le_refl _))⟩
  exact ⟨by rw [List.length_reverse]; exact hz, _, r.reverse, ⟨_, Heap.get?_push_size _ rfl, rfl, _, rfl⟩⟩
end
end L2.Own

namespace Sl
open PySem PySem.Spec PyProof.Rows L2
theorem inV_strs (y : Str) (zs : List Str) : inV (.str y) (zs.map V.str) = zs.contains y := by
  unfold inV
  rw [List.any_map, List.contains_eq_any_beq]
  congr 1
  funext x
  show (x == y) = (y == x)
  rw [Bool.eq_iff_iff, beq_iff_eq, beq_iff_eq]
  exact eq_comm
theorem flat_strs (zs : List Str) : (zs.map V.str).all flatV = true := by
  rw [List.all_map, List.all_eq_true]
  exact fun _ _ => rfl
/-! ## rows: threads told over and over -/
def rot {α : Type} (ws : List α) (k : Nat) : List α := ws.drop k ++ ws.take k
theorem rot_length {α : Type} (ws : List α) (k : Nat) : (rot ws k).length = ws.length := by
  unfold rot
  rw [List.length_append, List.length_drop, List.length_take]
  omega
theorem rot_get {α : Type} {ws : List α} {k i : Nat} (hk : k ≤ ws.length) (hi : i < ws.length) : (rot ws k)[i]? = ws[(i + k) % ws.length]? := by
  unfold rot
  by_cases h : i + k < ws.length
  · rw [List.getElem?_append_left (by rw [List.length_drop]; omega), List.getElem?_drop, Nat.mod_eq_of_lt h, Nat.add_comm k i]
  · rw [List.getElem?_append_right (by rw [List.length_drop]; omega), List.length_drop, List.getElem?_take_of_lt (by omega)]
    have e : (i + k) % ws.length = i - (ws.length - k) := by
      rw [Nat.mod_eq_sub_mod (by omega), Nat.mod_eq_of_lt (by omega)]
      omega
    rw [e]
/-- the thread at a spot -/
def at_ (ws : List Str) (s : Int) : Str := ws.getD (s % (ws.length : Nat)).toNat Str.empty
theorem at_nat {ws : List Str} {i : Nat} (hi : i < ws.length) : ws[i]? = some (at_ ws (i : Nat)) := by
  unfold at_
  rw [Int.emod_eq_of_lt (by omega) (by omega), Int.toNat_natCast, List.getElem?_eq_getElem hi]
  simp [List.getD, List.getElem?_eq_getElem hi]
theorem emod_in {n : Nat} (s : Int) (h : 0 < n) : 0 ≤ s % (n : Nat) ∧ s % (n : Nat) < (n : Nat) := ⟨Int.emod_nonneg _ (by omega), Int.emod_lt_of_pos _ (by omega)⟩
theorem at_get {ws : List Str} (h : 0 < ws.length) (s : Int) : ws[(s % (ws.length : Nat)).toNat]? = some (at_ ws s) := by
  obtain ⟨h0, h1⟩ := emod_in s h
  unfold at_
  have hi : (s % (ws.length : Nat)).toNat < ws.length := by omega
  rw [List.getElem?_eq_getElem hi]
  simp [List.getD, List.getElem?_eq_getElem hi]
theorem at_mod {ws : List Str} (s : Int) : at_ ws (s % (ws.length : Nat)) = at_ ws s := by
  unfold at_
  rw [Int.emod_emod]
theorem at_ext {ws vs : List Str} (hl : ws.length = vs.length) (h : ∀ i : Nat, i < ws.length → at_ ws (i : Nat) = at_ vs (i : Nat)) : ws = vs := by
  refine List.ext_getElem? fun i => ?_
  by_cases hi : i < ws.length
  · rw [at_nat hi, at_nat (by omega), h i hi]
  · rw [List.getElem?_eq_none (by omega), List.getElem?_eq_none (by omega)]
theorem at_mem {ws : List Str} (h : 0 < ws.length) (s : Int) : at_ ws s ∈ ws := List.mem_of_getElem? (at_get h s)
/-- f tells the same so many spots on -/
def Per (f : Int → Str) (n : Nat) : Prop := ∀ s, f (s + (n : Nat)) = f s
theorem at_per (ws : List Str) : Per (at_ ws) ws.length := fun s => by
  unfold at_
  rw [Int.add_emod_right]
theorem Per.mul {f : Int → Str} {n : Nat} (h : Per f n) (k : Int) (s : Int) : f (s + k * (n : Nat)) = f s := by
  have pos : ∀ (m : Nat) (s : Int), f (s + (m : Nat) * (n : Nat)) = f s := fun m => by
    induction m with
    | zero => intro s; simp
    | succ m ih =>
      intro s
      rw [show s + ((m + 1 : Nat) : Int) * (n : Nat) = s + (m : Nat) * (n : Nat) + (n : Nat) by rw [Int.natCast_add, Int.add_mul]; simp; omega, h, ih]
  rcases Int.le_total 0 k with hk | hk
  · obtain ⟨m, rfl⟩ := Int.eq_ofNat_of_zero_le hk
    exact pos m s
  · obtain ⟨m, e⟩ := Int.eq_ofNat_of_zero_le (show 0 ≤ -k by omega)
    have e2 : k = -(m : Int) := by omega
    have := pos m (s + k * (n : Nat))
    rw [e2] at this ⊢
    rw [← this]
    congr 1
    rw [Int.add_assoc, ← Int.add_mul, Int.add_left_neg, Int.zero_mul, Int.add_zero]
theorem Per.mod {f : Int → Str} {n : Nat} (h : Per f n) (s : Int) : f (s % (n : Nat)) = f s := by
  have e : s = s % (n : Nat) + (s / (n : Nat)) * (n : Nat) := by
    have := Int.emod_add_mul_ediv s (n : Nat)
    rw [Int.mul_comm] at this
    omega
  conv => rhs; rw [e]
  exact (h.mul _ _).symm
/-- the threads begun elsewhere -/
theorem at_rot {ws : List Str} {k : Nat} (hk : k ≤ ws.length) (s : Int) : at_ (rot ws k) s = at_ ws (s + (k : Nat)) := by
  by_cases h : 0 < ws.length
  · obtain ⟨h0, h1⟩ := emod_in s h
    have g1 := at_get (ws := rot ws k) (by rw [rot_length]; exact h) s
    rw [rot_length, rot_get hk (by omega)] at g1
    have g2 := at_get h (s + (k : Nat))
    have e : ((s % (ws.length : Nat)).toNat + k) % ws.length = ((s + (k : Nat)) % (ws.length : Nat)).toNat := by
      have e1 : (s + (k : Nat)) % (ws.length : Nat) = ((s % (ws.length : Nat)) + (k : Nat)) % (ws.length : Nat) := by rw [Int.emod_add_emod]
      rw [e1]
      obtain ⟨m, hm⟩ := Int.eq_ofNat_of_zero_le h0
      rw [hm]
      show (m + k) % ws.length = (((m : Int) + (k : Nat)) % (ws.length : Nat)).toNat
      rw [← Int.natCast_add, ← Int.natCast_emod, Int.toNat_natCast]
    rw [e, g2] at g1
    exact (Option.some.inj g1).symm
  · have e : ws = [] := List.eq_nil_of_length_eq_zero (by omega)
    subst e
    have hk0 : k = 0 := by simpa using hk
    subst hk0
    unfold at_ rot
    simp [List.getD]
theorem rot_iff {ws : List Str} {k : Nat} (hk : k ≤ ws.length) : rot ws k = ws ↔ Per (at_ ws) k := by
  constructor
  · intro h s
    rw [← at_rot hk, h]
  · intro h
    exact at_ext (rot_length _ _) fun i _ => by rw [at_rot hk, h]
/-- a row's threads: at least one, no lesser round -/
structure RowOk (r : List Str) : Prop where
  ne : 0 < r.length
  least : ∀ k, 0 < k → k < r.length → rot r k ≠ r
  sh : ∀ z ∈ r, isSh z = true
  most : r.length ≤ 240
/-- the least round -/
structure Least (ws : List Str) (k : Nat) : Prop where
  pos : 0 < k
  le : k ≤ ws.length
  eq : rot ws k = ws
  no : ∀ j, 0 < j → j < k → rot ws j ≠ ws
theorem Least.at {ws : List Str} {k : Nat} (h : Least ws k) (s : Int) : at_ (ws.take k) s = at_ ws s := by
  have hp := (rot_iff h.le).mp h.eq
  have hl : (ws.take k).length = k := by rw [List.length_take]; have := h.le; omega
  obtain ⟨h0, h1⟩ := emod_in s h.pos
  have g := at_get (ws := ws.take k) (by rw [hl]; exact h.pos) s
  have hlt : (s % (k : Nat)).toNat < k := by omega
  have hle := h.le
  rw [hl, List.getElem?_take_of_lt hlt, at_nat (by omega)] at g
  have e := Option.some.inj g
  rw [← e, Int.toNat_of_nonneg h0]
  exact hp.mod s
theorem Least.rowOk {ws : List Str} {k : Nat} (h : Least ws k) (hs : ∀ z ∈ ws, isSh z = true) (hm : k ≤ 240) : RowOk (ws.take k) := by
  have hl : (ws.take k).length = k := by rw [List.length_take]; have := h.le; omega
  refine ⟨by rw [hl]; exact h.pos, fun j j0 j1 e => ?_, fun z hz => hs z (List.mem_of_mem_take hz), by rw [hl]; exact hm⟩
  rw [hl] at j1
  have hj : j ≤ (ws.take k).length := by omega
  have hp : Per (at_ ws) j := fun s => by
    rw [← h.at, ← h.at]
    exact (rot_iff hj).mp e s
  exact h.no j j0 j1 ((rot_iff (by have := h.le; omega)).mpr hp)
theorem RowOk.rot {r : List Str} (h : RowOk r) {j : Nat} (hj : j ≤ r.length) : RowOk (rot r j) := by
  refine ⟨by rw [rot_length]; exact h.ne, fun k k0 k1 e => ?_, fun z hz => h.sh z ?_, by rw [rot_length]; exact h.most⟩
  · rw [rot_length] at k1
    have hp := (rot_iff (ws := Sl.rot r j) (by rw [rot_length]; omega)).mp e
    refine h.least k k0 k1 ((rot_iff (by omega)).mpr fun s => ?_)
    have := hp (s - (j : Nat))
    rw [at_rot hj, at_rot hj] at this
    rw [show s - (j : Nat) + (k : Nat) + (j : Nat) = s + (k : Nat) by omega, show s - (j : Nat) + (j : Nat) = s by omega] at this
    exact this
  · unfold Sl.rot at hz
    rcases List.mem_append.mp hz with q | q
    · exact List.mem_of_mem_drop q
    · exact List.mem_of_mem_take q
/-- a row is its threads -/
theorem RowOk.unique {r q : List Str} (hr : RowOk r) (hq : RowOk q) (h : ∀ s, at_ r s = at_ q s) : r = q := by
  have key : ∀ {r q : List Str}, RowOk r → RowOk q → (∀ s, at_ r s = at_ q s) → r.length ≤ q.length := fun {r q} hr hq h => by
    rcases Nat.lt_or_ge q.length r.length with hlt | hge
    · exfalso
      refine hr.least q.length hq.ne hlt ((rot_iff (by omega)).mpr fun s => ?_)
      rw [h, h]
      exact at_per q s
    · exact hge
  have hl : r.length = q.length := Nat.le_antisymm (key hr hq h) (key hq hr fun s => (h s).symm)
  exact at_ext hl fun i _ => h _
/-- a least round there is -/
theorem least_ex {ws : List Str} (h : 0 < ws.length) : ∃ k, Least ws k := by
  have whole : rot ws ws.length = ws := by
    unfold rot
    rw [List.drop_length, List.take_length, List.nil_append]
  have go : ∀ n, n ≤ ws.length → (∃ k, Least ws k) ∨ ∀ j, 0 < j → j ≤ n → rot ws j ≠ ws := fun n => by
    induction n with
    | zero => exact fun _ => .inr fun j j0 j1 => by omega
    | succ n ih =>
      intro hn
      rcases ih (by omega) with q | q
      · exact .inl q
      · by_cases e : rot ws (n + 1) = ws
        · exact .inl ⟨n + 1, by omega, hn, e, fun j j0 j1 => q j j0 (by omega)⟩
        · refine .inr fun j j0 j1 => ?_
          by_cases ej : j = n + 1
          · rw [ej]; exact e
          · exact q j j0 (by omega)
  rcases go ws.length (Nat.le_refl _) with q | q
  · exact q
  · exact absurd whole (q ws.length h (Nat.le_refl _))
theorem Least.unique {ws : List Str} {j k : Nat} (hj : Least ws j) (hk : Least ws k) : j = k := by
  rcases Nat.lt_trichotomy j k with h | h | h
  · exact absurd hj.eq (hk.no j hj.pos h)
  · exact h
  · exact absurd hk.eq (hj.no k hk.pos h)
theorem Least.dvd {ws : List Str} {k : Nat} (h : Least ws k) : ws.length % k = 0 := by
  have hn := h.le
  have h0 := h.pos
  rcases Nat.eq_zero_or_pos (ws.length % k) with e | e
  · exact e
  exfalso
  have hlt : ws.length % k < k := Nat.mod_lt _ h0
  have hk : Per (at_ ws) k := (rot_iff hn).mp h.eq
  refine h.no _ e hlt ((rot_iff (by omega)).mpr fun s => ?_)
  have e1 := hk.mul (-((ws.length / k : Nat) : Int)) (s + (ws.length : Nat))
  have e2 : s + (ws.length : Nat) + -((ws.length / k : Nat) : Int) * (k : Nat) = s + ((ws.length % k : Nat) : Int) := by
    have := Nat.div_add_mod ws.length k
    have h3 : ((ws.length / k : Nat) : Int) * (k : Nat) = ((k * (ws.length / k) : Nat) : Int) := by
      rw [Nat.mul_comm]
      exact (Int.natCast_mul _ _).symm
    rw [Int.neg_mul, h3]
    omega
  rw [e2, at_per ws s] at e1
  exact e1
theorem nd_ne {a b : V} (h : (!decide (a = b)) = true) : a ≠ b := by simpa using h
theorem nd_eq {a b : V} (h : ¬ (!decide (a = b)) = true) : a = b := by simpa using h
theorem ne_nd {a b : V} (h : a ≠ b) : (!decide (a = b)) = true := by simpa using h
theorem eq_nd {a b : V} (h : a = b) : ¬ (!decide (a = b)) = true := by simpa using h
end Sl

namespace Sl
open PySem PySem.Spec PyProof.Rows L2
/-! ## drawn shades -/
def abc : List Nat := (List.range 26).map (97 + ·)
theorem abc_eq : (Str.ofString "abcdefghijklmnopqrstuvwxyz").cps.toList = abc := by decide +kernel
theorem abc_size : (Str.ofString "abcdefghijklmnopqrstuvwxyz").cps.size = 26 := by decide +kernel
theorem abc_get {i : Nat} {c : Nat} (h : abc[i]? = some c) : 97 ≤ c ∧ c ≤ 122 := by
  have hm := List.mem_of_getElem? h
  obtain ⟨k, hk, e⟩ := List.mem_map.mp hm
  have := List.mem_range.mp hk
  omega
theorem abc_at {d : Int} (h0 : 0 ≤ d) (h1 : d < 26) : ∃ c, atI (Str.ofString "abcdefghijklmnopqrstuvwxyz").cps.toList d = some c ∧ 97 ≤ c ∧ c ≤ 122 := by
  rw [abc_eq]
  have hl : abc.length = 26 := by decide
  have hd : d.toNat < abc.length := by omega
  have e : abc[d.toNat]? = some abc[d.toNat] := List.getElem?_eq_getElem hd
  refine ⟨_, ?_, abc_get e⟩
  have := atI_nat e
  rw [Int.toNat_of_nonneg h0] at this
  exact this
/-- signs that are all small letters -/
def Low (z : Str) : Prop := ∀ c ∈ z.cps.toList, 97 ≤ c ∧ c ≤ 122
theorem isSh_of {z : Str} (h : Low z) (h1 : 1 ≤ z.cps.size) (h3 : z.cps.size ≤ 3) : isSh z = true := by
  unfold isSh
  rw [decide_eq_true (⟨h1, h3⟩ : _ ∧ _), Bool.true_and, List.all_eq_true]
  exact fun c hc => decide_eq_true (h c hc)
theorem low_of {z : Str} (h : isSh z = true) : Low z := fun c hc => by
  unfold isSh at h
  rw [Bool.and_eq_true] at h
  exact of_decide_eq_true (List.all_eq_true.mp h.2 c hc)
theorem low_append {y z : Str} (h1 : Low y) (h2 : Low z) : Low (y ++ z) := fun c hc => by
  have e : (y ++ z).cps.toList = y.cps.toList ++ z.cps.toList := by
    show (y.cps ++ z.cps).toList = _
    simp
  rw [e] at hc
  rcases List.mem_append.mp hc with q | q
  · exact h1 c q
  · exact h2 c q
theorem low_one {c : Nat} (h : 97 ≤ c ∧ c ≤ 122) : Low ⟨#[c]⟩ := fun d hd => by
  have : d = c := by simpa using hd
  rw [this]
  exact h
theorem size_append (y z : Str) : (y ++ z).cps.size = y.cps.size + z.cps.size := by
  show (y.cps ++ z.cps).size = _
  simp
theorem cut_low {z : Str} (h : Low z) (lo hi : Option Int) : Low (cutS z lo hi) := fun c hc => by
  unfold cutS at hc
  rw [List.toList_toArray] at hc
  exact h c (List.mem_of_mem_drop (List.mem_of_mem_take hc))
theorem cut_size (z : Str) (k : Nat) : (cutS z none (some (k : Int))).cps.size = min k z.cps.size := by
  unfold cutS
  rw [List.size_toArray, HT.sIx_none, HT.sIx_nat, List.length_take, List.drop_zero]
  show min (min k z.cps.size - 0) z.cps.toList.length = _
  rw [Array.length_toList]
  omega
theorem pigeon {α : Type} [DecidableEq α] : ∀ {l zs : List α}, l.Nodup → (∀ x ∈ l, x ∈ zs) → l.length ≤ zs.length
  | [], _, _, _ => Nat.zero_le _
  | a :: l, zs, hn, hs => by
    have hn' := List.nodup_cons.mp hn
    have ha : a ∈ zs := hs a List.mem_cons_self
    have ih := pigeon (l := l) (zs := zs.erase a) hn'.2 fun x hx => by
      have hne : x ≠ a := fun e => hn'.1 (e ▸ hx)
      exact (List.mem_erase_of_ne hne).mpr (hs x (List.mem_cons_of_mem _ hx))
    rw [List.length_erase_of_mem ha] at ih
    have : 0 < zs.length := List.length_pos_of_mem ha
    simp only [List.length_cons]
    omega
/-! ## data of texts -/
theorem dp_strs (K : PySem.W.Frag) (H : Hp) : ∀ zs : List Str, DpAll K H (zs.map V.str) (zs.map PyData.str)
  | [] => .nil
  | z :: zs => .cons (.str z) (dp_strs K H zs)
theorem strOk_of {z : Str} (h : isSh z = true) : PyData.strOk z = true := by
  have hl := low_of h
  unfold PyData.strOk
  rw [← Array.all_toList, List.all_eq_true]
  intro c hc
  have := hl c hc
  exact decide_eq_true (by omega)
theorem lay_strs : ∀ {zs : List Str}, (∀ z ∈ zs, isSh z = true) → PyData.canLayAll0 (zs.map PyData.str) = true
  | [], _ => rfl
  | z :: zs, h => by
    have ih := lay_strs fun y hy => h y (List.mem_cons_of_mem _ hy)
    have h1 := strOk_of (h z List.mem_cons_self)
    simp [PyData.canLayAll0, PyData.canLay0, ih, h1]
theorem deep_strs : ∀ zs : List Str, PyData.depthAll (zs.map PyData.str) ≤ 1
  | [] => by simp [PyData.depthAll]
  | z :: zs => by
    have ih := deep_strs zs
    simp only [List.map_cons, PyData.depthAll, PyData.depth]
    omega
theorem shaped_strs {zs : List Str} (h : ∀ z ∈ zs, isSh z = true) : SeqAt.shaped (.list (zs.map PyData.str)) = true := by
  unfold SeqAt.shaped
  rw [Bool.and_eq_true]
  refine ⟨lay_strs h, decide_eq_true ?_⟩
  have := deep_strs zs
  simp only [PyData.depth]
  omega
theorem shaped_strsT {zs : List Str} (h : ∀ z ∈ zs, isSh z = true) : SeqAt.shaped (.tuple (zs.map PyData.str)) = true := by
  unfold SeqAt.shaped
  rw [Bool.and_eq_true]
  refine ⟨lay_strs h, decide_eq_true ?_⟩
  have := deep_strs zs
  simp only [PyData.depth]
  omega
theorem eqv_strs {zs : List Str} (h : ∀ z ∈ zs, isSh z = true) : PyData.eqv (.list (zs.map PyData.str)) (.list (zs.map PyData.str)) = true := SeqAt.eqv_refl _ (lay_strs h)
theorem eqv_strsT {zs : List Str} (h : ∀ z ∈ zs, isSh z = true) : PyData.eqv (.tuple (zs.map PyData.str)) (.tuple (zs.map PyData.str)) = true := SeqAt.eqv_refl _ (lay_strs h)

theorem eqvAll_strs : ∀ as bs : List Str, PyData.eqvAll (as.map PyData.str) (bs.map PyData.str) = decide (as = bs)
  | [], [] => rfl
  | [], _ :: _ => rfl
  | _ :: _, [] => rfl
  | a :: as, b :: bs => by
    rw [List.map_cons, List.map_cons, PyData.eqvAll, eqvAll_strs as bs]
    have e : PyData.eqv (.str a) (.str b) = decide (a = b) := by
      simp only [PyData.eqv]
      rw [Bool.eq_iff_iff, beq_iff_eq, decide_eq_true_iff]
    rw [e, Bool.eq_iff_iff, Bool.and_eq_true, decide_eq_true_iff, decide_eq_true_iff, decide_eq_true_iff, List.cons.injEq]
theorem eqv_tups (as bs : List Str) : PyData.eqv (.tuple (as.map PyData.str)) (.tuple (bs.map PyData.str)) = decide (as = bs) := by
  rw [PyData.eqv]
  exact eqvAll_strs as bs
theorem eqv_lsts (as bs : List Str) : PyData.eqv (.list (as.map PyData.str)) (.list (bs.map PyData.str)) = decide (as = bs) := by
  rw [PyData.eqv]
  exact eqvAll_strs as bs
end Sl

namespace L2.Own
open PySem PySem.Spec PyProof.Rows Sl
section
variable {X : Cx} {CX : CXT} {C g : Addr} {n : Nat} {sp : Sp} {E : XK}
/-- x op y, x an instance whose class's def for op is at g, y of a class that is not below -/
def rOwnI (K : PySem.W.Frag) (C : Addr) (sp : Sp) (E : XK) : R2 := fun x y H Q => ∃ a dx fs t, x = .ref a ∧ H a = some (.ins C dx fs) ∧ TyX K H y t ∧ PySem.W.notFirst K C t = true ∧ sp [x, y] H Q E
theorem op_ownI {op : CmpOp} (hop : ∀ a b, compareOp op a b = richCompare op a b) (hs : PySem.W.findIn X.K (.ref C) (cmpInfo op).2.1 = some (some (.ref g))) (hf : PySem.W.isFn X.K (.ref g) = true) (F : FnR X.prog X.w X.K X.mg X.base CX n g sp)
    (hr : Room n X.A) (hx : Passes CX X E) : OpR X (compareOp op) (rOwnI X.K C sp E) := by
  intro pins s σ H x y v u Q I rx ry hh
  obtain ⟨a, dx, fs, t, rfl, ha, ty, hn, q⟩ := hh
  cases (show v = Value.ref a from rx)
  obtain ⟨mA, O, _⟩ := ins_get I.hok ha
  obtain ⟨od, J, _⟩ := O.look
  obtain ⟨Z, kz, pz, _⟩ := kit_of I ry ty
  obtain ⟨m, hF⟩ := I.fr
  rw [hop]
  refine PySem.W.cmp_K (op := op) (tb := t) hr.units0 hF I.ok.mod.kin J (kz.ty _ _ I.kIn pz) hn hs hf ?_
  refine wpAny_mono (wpAny_call (run_fnR (us := [.ref a, u]) (vs := [.ref a, y]) F hr hx I (.cons rfl (.cons ry .nil)) q)) (fun w' s' z => ?_) fun _ _ z => z
  obtain ⟨z', H', I', rz, qz⟩ := z
  exact SlX.cmpback rz ⟨z', H', I', rz, qz⟩
/-- len(x) by an own __len__ -/
def rLenI (C : Addr) (sp : Sp) (E : XK) : List V → Hp → VK → Prop := fun xs H Q => ∃ a dx fs, xs = [V.ref a] ∧ H a = some (.ins C dx fs) ∧ sp [.ref a] H (fun z H' => ∃ i : Int, z = .int i ∧ 0 ≤ i ∧ i < 2 ^ 63 ∧ Q (.int i) H') E
theorem call_lenI (hs : PySem.W.findIn X.K (.ref C) "__len__" = some (some (.ref g))) (hf : PySem.W.isFn X.K (.ref g) = true) (F : FnR X.prog X.w X.K X.mg X.base CX n g sp) (hr : Room (n + 1) X.A) (hx : Passes CX X E) : CallR X (.builtin "len") (rLenI C sp E) := by
  intro pins s σ H xs us Q I r hh
  obtain ⟨a, dx, fs, rfl, ha, q⟩ := hh
  obtain ⟨u, rfl, ru⟩ := r.one
  cases (show u = Value.ref a from ru)
  obtain ⟨mA, O, _⟩ := ins_get I.hok ha
  obtain ⟨od, J, _⟩ := O.look
  obtain ⟨m, hF⟩ := I.fr
  refine PySem.W.len_K hF I.ok.mod.kin J hs hf ?_
  refine wpAny_mono (wpAny_call (SlX.run_at (us := [.ref a]) (ws := [.ref a]) F (Room.in1 hr) I.env0.in1 hx I (.cons rfl .nil) q)) (fun w' s' z => ?_) fun _ _ z => z
  obtain ⟨z', H', I', rz, i, ei, h0, h1, qz⟩ := z
  subst ei
  obtain ⟨tk, ev⟩ := (show ∃ t, w' = Value.int i t from rz)
  cases ev
  exact ⟨⟨h0, h1⟩, .int i, H', I'.tok _, ⟨_, rfl⟩, qz⟩
/-- str(x) by an own __str__ -/
def rStrI (C : Addr) (sp : Sp) (E : XK) : List V → Hp → VK → Prop := fun xs H Q => ∃ a dx fs, xs = [V.ref a] ∧ H a = some (.ins C dx fs) ∧ sp [.ref a] H (fun z H' => ∃ i, z = .str i ∧ Q (.str i) H') E
theorem call_strI (hs : PySem.W.findIn X.K (.ref C) "__str__" = some (some (.ref g))) (hf : PySem.W.isFn X.K (.ref g) = true) (F : FnR X.prog X.w X.K X.mg X.base CX n g sp) (hr : Room (n + 2) X.A) (hx : Passes CX X E) : CallR X (.type "str") (rStrI C sp E) := by
  intro pins s σ H xs us Q I r hh
  obtain ⟨a, dx, fs, rfl, ha, q⟩ := hh
  obtain ⟨u, rfl, ru⟩ := r.one
  cases (show u = Value.ref a from ru)
  obtain ⟨mA, O, _⟩ := ins_get I.hok ha
  obtain ⟨od, J, _⟩ := O.look
  have hr2 : Room n X.A.in1.in1 := (show Room (n + 1) X.A.in1 from Room.in1 hr).in1
  refine PySem.W.kso_call hr2.units0 I.kIn J hs hf ?_
  refine wpAny_mono (wpAny_call (SlX.run_at (us := [.ref a]) (ws := [.ref a]) F hr2 I.env0.in1.in1 hx I (.cons rfl .nil) q)) (fun w' s' z => ?_) fun _ _ z => z
  obtain ⟨z', H', I', rz, i, ei, qz⟩ := z
  subst ei
  obtain ⟨tk, ev⟩ := (show ∃ t, w' = Value.str i t from rz)
  cases ev
  exact ⟨.str i, H', I', ⟨_, rfl⟩, qz⟩
end
end L2.Own

namespace L2.Own
open PySem PySem.Spec PyProof.Rows Sl
/-! ## x != y by an own == -/
section
variable {prog : Program} {w : World} {A : Around} {E : Value → Shared → Prop} {s : Shared} {K : PySem.W.Frag} {x C f L : Addr} {h0 : Heap} {m : Str → Option Value} {ox : Obj} {od : Option Obj} {b tb : Value}
/-- object.__ne__(x, b): not what the own == gives -/
theorem one_call {Q : Value → Shared → Prop} (hu : A.in1.units < cLine) (X : K.In s.heap) (I : PySem.W.InstAt s.heap x ox C od) (hm : PySem.W.mroIn K C (.type "object") = some true)
    (hs : PySem.W.findIn K (.ref C) "__eq__" = some (some (.ref f))) (hf : PySem.W.isFn K (.ref f) = true)
    (h : wpAny (model prog w) A.in1 (call (.ref f) [.ref x, b]) (fun v s' => ∃ c : Bool, v = .bool c ∧ Q (.bool !c) s') E s) : wpAny (model prog w) A (call (.builtin "object.__ne__") [.ref x, b]) Q E s := by
  have sub : PySem.W.Looks (model prog w) s.heap (isInstance (.ref x) (.type "object")) true := I.type.andThen (PySem.W.looks_mroIn X hm)
  refine wpAny_call (codeAny_call_builtin PySem.F.slot_object_ne.plain PySem.F.entry_object_ne (PySem.W.check_slot (owner := "object") (n := "__ne__") (by decide +kernel) (by decide +kernel) sub (PySem.F.args_object_ne_2 _ _) ?_))
  unfold Builtin.«object.__ne__»
  refine wpAny_bind (wpAny_of_eq (a := ((Value.ref x : Value), [b])) (by first | rfl | (simp only [slotArgs]; rfl)) ?_)
  refine wpAny_bind (wpAny_cRoomFor hu ?_)
  refine wpAny_bind (PySem.W.ifBound_K X I hs hf (wpAny_mono h (fun v s' hv => ?_) fun _ _ e => e))
  obtain ⟨c, rfl, q⟩ := hv
  show wpAny _ _ (truthy (.bool c) >>= fun t => ret (.bool !t)) _ _ _
  refine wpAny_bind (wpAny_of_eq (a := c) (by first | rfl | kernel_rfl) ?_)
  exact wpAny_pure q
/-- the builtin that object has for !=, bound to an instance -/
theorem ifBound_ne {Q : Option Value → Shared → Prop} (X : K.In s.heap) (I : PySem.W.InstAt s.heap x ox C od) (hs : PySem.W.findIn K (.ref C) "__ne__" = some (some (.builtin "object.__ne__")))
    (h : wpAny (model prog w) A (call (.builtin "object.__ne__") [.ref x, b]) (fun v => Q (some v)) E s) : wpAny (model prog w) A (callSpecialIfBound? (.ref x) "__ne__" [b]) Q E s := by
  have fin : wpAny (model prog w) A (call (.builtin "object.__ne__") ([.ref x] ++ [b]) >>= fun v => pure (some v)) Q E s := wpAny_bind (wpAny_mono h (fun _ _ z => wpAny_pure z) fun _ _ z => z)
  have bd := PySem.F.slot_object_ne.bind (.ref x)
  simp only [callSpecialIfBound?, bindSpecialIfBound?]
  refine wpAny_holding (wpAny_bind (wpAny_bind (wpAny_bind (I.type.here ((PySem.W.looks_findIn X hs).here (wpAny_bind (wpAny_askSetting (wpAny_ite ?_))))))))
  split
  · exact wpAny_bind (wpAny_of_eq bd (wpAny_pure (by exact fin)))
  · exact wpAny_tryCatch (wpAny_bind (wpAny_of_eq bd (wpAny_pure (by exact fin))))
theorem richNe {Q : Value → Shared → Prop} (hu0 : A.units < cLine) (hu : A.in1.units < cLine) (X : K.In s.heap) (I : PySem.W.InstAt s.heap x ox C od) (hb : PySem.W.Looks (model prog w) s.heap (typeOf b) tb) (hn : PySem.W.notFirst K C tb = true)
    (hne : PySem.W.findIn K (.ref C) "__ne__" = some (some (.builtin "object.__ne__"))) (hm : PySem.W.mroIn K C (.type "object") = some true)
    (hs : PySem.W.findIn K (.ref C) "__eq__" = some (some (.ref f))) (hf : PySem.W.isFn K (.ref f) = true)
    (h : wpAny (model prog w) A.in1 (call (.ref f) [.ref x, b]) (fun v s' => ∃ c : Bool, v = .bool c ∧ Q (.bool !c) s') E s) : wpAny (model prog w) A (richCompare .NotEq (.ref x) b) Q E s := by
  have one : wpAny (model prog w) A (tryCompare (.ref x) "__ne__" b) (fun r s' => ∃ c : Bool, r = some (.bool c) ∧ Q (.bool c) s') E s := by
    unfold tryCompare
    have k := one_call (Q := fun v s' => ∃ c : Bool, v = .bool c ∧ Q (.bool c) s') hu X I hm hs hf (wpAny_mono h (fun v s' z => by obtain ⟨c, e, q⟩ := z; exact ⟨c, e, _, rfl, q⟩) fun _ _ z => z)
    refine wpAny_bind (ifBound_ne X I hne (wpAny_mono k (fun v s' z => ?_) fun _ _ z => z))
    obtain ⟨c, rfl, q⟩ := z
    exact wpAny_pure ⟨c, rfl, q⟩
  unfold richCompare
  simp only [oneThing_ref]
  refine wpAny_holding (wpAny_bind (wpAny_cRoomFor hu0 (wpAny_bind (I.type.here (wpAny_bind (hb.here ?_))))))
  have go : ∀ {R : Option Value → Sem Value}, (∀ c s', Q (.bool c) s' → wpAny (model prog w) A (R (some (.bool c))) Q E s') → wpAny (model prog w) A (tryCompare (.ref x) "__ne__" b >>= R) Q E s := fun {R} hR =>
    wpAny_bind (wpAny_mono one (fun r s' z => by obtain ⟨c, rfl, q⟩ := z; exact hR c s' q) fun _ _ z => z)
  split
  · rename_i q
    have e : PySem.W.subIn K tb (.ref C) = some false := by
      rcases Bool.or_eq_true_iff.mp hn with e | e
      · rw [beq_iff_eq.mp e] at q
        simp at q
      · exact beq_iff_eq.mp e
    refine wpAny_bind ((PySem.W.looks_subIn X e).here ?_)
    simp only [Bool.false_eq_true, if_false]
    exact go fun c s' q => wpAny_pure q
  · refine wpAny_bind (wpAny_pure ?_)
    simp only [Bool.false_eq_true, if_false]
    exact go fun c s' q => wpAny_pure q
end
section
variable {X : Cx} {CX : CXT} {C g : Addr} {n : Nat} {sp : Sp} {E : XK}
/-- x != y, x an instance with an own == that gives truths -/
def rNeI (K : PySem.W.Frag) (C : Addr) (sp : Sp) (E : XK) : R2 := fun x y H Q => ∃ a dx fs t, x = .ref a ∧ H a = some (.ins C dx fs) ∧ TyX K H y t ∧ PySem.W.notFirst K C t = true ∧ sp [x, y] H (fun z H' => ∃ c, z = .bl c ∧ Q (.bl !c) H') E
theorem op_neI (hne : PySem.W.findIn X.K (.ref C) "__ne__" = some (some (.builtin "object.__ne__"))) (hm : PySem.W.mroIn X.K C (.type "object") = some true) (hs : PySem.W.findIn X.K (.ref C) "__eq__" = some (some (.ref g))) (hf : PySem.W.isFn X.K (.ref g) = true)
    (F : FnR X.prog X.w X.K X.mg X.base CX n g sp) (hr : Room (n + 1) X.A) (hx : Passes CX X E) : OpR X (compareOp .NotEq) (rNeI X.K C sp E) := by
  intro pins s σ H x y v u Q I rx ry hh
  obtain ⟨a, dx, fs, t, rfl, ha, ty, hn, q⟩ := hh
  cases (show v = Value.ref a from rx)
  obtain ⟨mA, O, _⟩ := ins_get I.hok ha
  obtain ⟨od, J, _⟩ := O.look
  obtain ⟨Z, kz, pz, _⟩ := kit_of I ry ty
  have hr1 : Room n X.A.in1 := Room.in1 hr
  show wpAny _ _ (richCompare .NotEq (.ref a) u) _ _ _
  refine richNe hr.units0 hr1.units0 I.kIn J (kz.ty _ _ I.kIn pz) hn hne hm hs hf ?_
  refine wpAny_mono (wpAny_call (SlX.run_at (us := [.ref a, u]) (ws := [.ref a, y]) F hr1 I.env0.in1 hx I (.cons rfl (.cons ry .nil)) q)) (fun w' s' z => ?_) fun _ _ z => z
  obtain ⟨z', H', I', rz, c, ez, qz⟩ := z
  subst ez
  cases (show w' = Value.bool c from rz)
  exact ⟨c, rfl, .bl !c, H', I', rfl, qz⟩
end
end L2.Own

namespace L2.Own
open PySem PySem.Spec PyProof.Rows Sl
/-! ## min of a list of alike data -/
open PySem.W (dataLt keyToks keyToksAll alike alikeAll AlikeAll minD)
theorem dl_negTrans {a b c : PyData} (h : dataLt a c = true) : dataLt a b = true ∨ dataLt b c = true := lex_negTrans (O := itemOrd) _ _ _ h
theorem dl_trans {a b c : PyData} (h1 : dataLt a b = true) (h2 : dataLt b c = true) : dataLt a c = true := lex_trans (O := itemOrd) _ _ _ h1 h2
theorem dl_irrefl (a : PyData) : dataLt a a = false := lex_irrefl (O := itemOrd) _
theorem minD_le : ∀ (xs : List PyData) (x : PyData), minD x xs ∈ x :: xs ∧ ∀ y ∈ x :: xs, dataLt y (minD x xs) = false
  | [], x => ⟨List.mem_cons_self, fun y hy => by rw [List.mem_singleton.mp hy]; exact dl_irrefl x⟩
  | z :: xs, x => by
    have e : minD x (z :: xs) = minD (if dataLt z x then z else x) xs := rfl
    rw [e]
    by_cases h : dataLt z x = true
    · rw [if_pos h]
      obtain ⟨h1, h2⟩ := minD_le xs z
      refine ⟨List.mem_cons_of_mem _ h1, fun y hy => ?_⟩
      rcases List.mem_cons.mp hy with q | q
      · subst q
        cases g : dataLt y (minD z xs) with
        | false => rfl
        | true => exact absurd (dl_trans h g) (by rw [h2 z List.mem_cons_self]; exact Bool.noConfusion)
      · exact h2 y q
    · rw [if_neg h]
      obtain ⟨h1, h2⟩ := minD_le xs x
      refine ⟨?_, fun y hy => ?_⟩
      · rcases List.mem_cons.mp h1 with q | q
        · rw [q]; exact List.mem_cons_self
        · exact List.mem_cons_of_mem _ (List.mem_cons_of_mem _ q)
      · rcases List.mem_cons.mp hy with q | q
        · rw [q]; exact h2 x List.mem_cons_self
        · rcases List.mem_cons.mp q with q | q
          · subst q
            cases g : dataLt y (minD x xs) with
            | false => rfl
            | true =>
              rcases dl_negTrans (b := x) g with k | k
              · exact absurd k h
              · rw [h2 x List.mem_cons_self] at k
                cases k
          · exact h2 y (List.mem_cons_of_mem _ q)
/-- min(xs): one of the items, none is less -/
def rMinD (K : PySem.W.Frag) : List V → Hp → VK → Prop := fun vs H Q => ∃ (a : Addr) (xs : List V) (d : PyData) (ds : List PyData), vs = [.ref a] ∧ SqL K H a xs ∧ DpAll K H xs (d :: ds) ∧ AlikeAll (d :: ds) ∧ PyData.depthAll (d :: ds) ≤ 8 ∧
  ∀ (i : Nat) (v : V) (e : PyData), xs[i]? = some v → (d :: ds)[i]? = some e → (∀ y ∈ d :: ds, dataLt y e = false) → Q v H
theorem cr_minD {X : Cx} (hc : X.calm = true) (hu : X.A.units + 64 < cLine) : CallR X (.builtin "min") (rMinD X.K) := by
  intro pins s σ H vs us Q I r hh
  obtain ⟨a, xs, d, ds, rfl, hs, hd, hal, hdep, q⟩ := hh
  obtain ⟨its, rv, hl, hz⟩ := I.list hs
  obtain ⟨as, ra⟩ := Dp.readsAll I _ _ _ hd rv
  rw [Vals.ref1 r]
  refine PySem.W.min_list_data (I.ok.hd hc) hl.isList (by simpa using ra) hal (by omega) fun i v h' tk bs hv hr hk => ?_
  have hv' : its[i]? = some v := by simpa using hv
  have hil : i < its.length := (List.getElem?_eq_some_iff.mp hv').1
  have hxl : i < xs.length := by rw [rv.length]; exact hil
  obtain ⟨u, hu1, ru⟩ := rv.get (List.getElem?_eq_getElem hxl)
  rw [hv'] at hu1
  cases hu1
  obtain ⟨cs, hr2, hlt, hmem, _⟩ := PySem.W.readsAll_at ra i v hv'
  have hr3 : Reads h' v ((d :: ds).getD i .none) cs := PySem.W.reads_keeps hk hr2
  obtain ⟨m1, m2⟩ := minD_le ds d
  have e : (d :: ds).getD i .none = minD d ds := PySem.W.alike_unique _ _ v cs bs (hal.1 _ hmem _ m1) hr3 hr
  refine ⟨xs[i], H, I.kept hk, ru, q i _ (minD d ds) (List.getElem?_eq_getElem hxl) ?_ m2⟩
  rw [← e, List.getElem?_eq_getElem hlt]
  simp [List.getD, List.getElem?_eq_getElem hlt]
/-! ## tuples of texts by their order -/
def ltT (as bs : List Str) : Bool := dataLt (.tuple (as.map PyData.str)) (.tuple (bs.map PyData.str))
theorem toks_inj : ∀ {as bs : List Str}, keyToksAll (as.map PyData.str) = keyToksAll (bs.map PyData.str) → as = bs
  | [], [], _ => rfl
  | [], b :: bs, h => by
    simp only [List.map_nil, List.map_cons, keyToksAll] at h
    cases h
  | a :: as, [], h => by
    simp only [List.map_nil, List.map_cons, keyToksAll] at h
    cases h
  | a :: as, b :: bs, h => by
    simp only [List.map_cons, keyToksAll, keyToks] at h
    have h1 := (List.cons.inj h).2
    have h2 := List.cons.inj (show Sum.inr a.cps.toList :: keyToksAll (as.map PyData.str) = Sum.inr b.cps.toList :: keyToksAll (bs.map PyData.str) from h1)
    have h3 : a = b := PySem.W.str_of_cps (Sum.inr.inj h2.1)
    rw [h3, toks_inj h2.2]
theorem ltT_total {as bs : List Str} (h1 : ltT as bs = false) (h2 : ltT bs as = false) : as = bs := by
  have e := lex_total (O := itemOrd) _ _ h1 h2
  simp only [keyToks] at e
  exact toks_inj e
theorem alike_strs : ∀ as bs : List Str, alikeAll (as.map PyData.str) (bs.map PyData.str) = true
  | [], _ => by simp [alikeAll]
  | _ :: _, [] => by simp [alikeAll]
  | a :: as, b :: bs => by simp [alikeAll, alike, alike_strs as bs]
end L2.Own

namespace L2.Own
open PySem PySem.Spec PyProof.Rows Sl
/-! ## t * k of a tuple, k from 1 on -/
theorem tuple_mul1 (l : Addr) (xs : Array Value) (n : Nat) (dd : Option Addr) (sl : Array (Option Value)) (u : Tok) :
    Meets (Builtin.«tuple.__mul__» ⟨[.ref l, .int 1 u], []⟩) (fun _ R s => s.heap.get? l = some { cls := .type "tuple", dict := dd, data := .seq xs n, slots := sl } ∧ R (.ok (.ret (Value.ref l))) s) :=
  .of_wp fun prog w A R s hh => by
    obtain ⟨hp, g, d, tk, os⟩ := s
    obtain ⟨hl, hq⟩ := hh
    have f1 := AutoSeq1.idx_int
    have c1 : (xs.isEmpty || (1 : Int) == 1) = true := by rw [show ((1 : Int) == 1) = true by decide, Bool.or_true]
    wp_walk using wpAny_loadPart' hl
    repeat (first
      | (refine wpAny_ite_false (decide_eq_false (by decide)) ?_; wp_walk using wpAny_loadPart' hl)
      | (refine wpAny_ite_true (decide_eq_true c1) ?_; wp_walk using wpAny_loadPart' hl))
    exact ⟨_, rfl, hq⟩
section
variable {X : Cx}
/-- t * 1 is t; t * k a new one, or t -/
def rRepO (K : PySem.W.Frag) : R2 := fun x y H Q => ∃ l k xs, x = .ref l ∧ y = .int k ∧ H l = some (.tup xs) ∧ xs ≠ [] ∧ 1 ≤ k ∧ k ≤ 1000 ∧ xs.length ≤ 1000 ∧
  ∀ H' p, Same H H' → H' p = some (.tup (List.replicate k.toNat xs).flatten) → Q (.ref p) H'
theorem op_repO : OpR X (binaryOp .Mult) (rRepO X.K) := by
  intro pins s σ H x y v u Q I rx ry hh
  obtain ⟨l, k, xs, rfl, rfl, hT, hne, h1, h2, hz, q⟩ := hh
  by_cases hk : k = 1
  · subst hk
    cases rx
    obtain ⟨t, rfl⟩ := ry
    obtain ⟨its, r, ⟨⟨cls, dd, data, sl⟩, ho, hc, n, hd⟩, hs⟩ := I.tuple (SqT.of hT)
    simp only at hc hd
    subst hc hd
    refine wpAny_binaryOp_repeat_ref (T := "tuple") (U := "int") (by decide) ⟨_, ho, rfl⟩ (fun s' => typeIs_int s' 1 t) noFill_tuple_mul PySem.F.fills_int_mul PySem.F.slot_int_rmul repeat_tuple PySem.F.slot_int_index.lookup
      (call_meets PySem.F.slot_int_rmul (typeIs_int s 1 t) PySem.F.entry_int_rmul (PySem.F.args_int_rmul_2 _ _) (int_rmul_tuple 1 t l its.toArray n dd sl)
        ⟨ho, rfl, ⟨_, ho, rfl⟩, call_meets PySem.F.slot_tuple_mul ⟨_, ho, rfl⟩ PySem.F.entry_tuple_mul (PySem.F.args_tuple_mul_2 _ _) (tuple_mul1 l its.toArray n dd sl t) ⟨ho, ?_⟩⟩)
    exact ⟨.ref l, H, I, rfl, q H l (Same.refl H) (by rw [hT]; simp)⟩
  · exact op_repT pins s σ H _ _ v u Q I rx ry ⟨l, k, xs, rfl, rfl, SqT.of hT, hne, by omega, h2, hz, fun p hp => q _ p (same_new hp) upd_same⟩
end
end L2.Own

namespace Sl
open PySem PySem.Spec PyProof.Rows L2
/-- a list of two whole numbers, from which is drawn -/
def PoolB (H : Hp) (p : Addr) : Prop := ∃ n m : Int, H p = some (.lst [.int n, .int m]) ∧ 0 ≤ m ∧ m < 1000000000000
theorem PoolB.same {H H' : Hp} {p : Addr} (s : Same H H') (h : PoolB H p) : PoolB H' p := let ⟨n, m, e, q⟩ := h; ⟨n, m, s _ _ e, q⟩
theorem PoolB.new {H : Hp} {p q : Addr} {o : HO} (hq : H q = none) (h : PoolB H p) : PoolB (L2.upd H q o) p := h.same (same_new hq)
theorem PoolB.lst {H : Hp} {p : Addr} (h : PoolB H p) : ∃ xs, H p = some (.lst xs) := let ⟨n, m, e, _⟩ := h; ⟨_, e⟩
theorem PoolB.ne {H : Hp} {p q : Addr} (h : PoolB H p) (hq : H q = none) : q ≠ p := fun e => by
  obtain ⟨n, m, k, _⟩ := h
  rw [e, k] at hq
  cases hq
theorem free_butB {p : Addr} {H H' : Hp} {l : Addr} (hp : PoolB H' p) (b : But p H H') (h : H' l = none) : H l = none := by
  cases q : H l with
  | none => rfl
  | some o =>
    by_cases e : l = p
    · exact absurd e (hp.ne h)
    · rw [b l o e q] at h
      cases h
/-- the same while something is drawn from the list at p -/
structure LcB (p : Addr) (H : Hp) (D : Addr) (H' : Hp) (xs : List V) : Prop where
  it : H' D = some (.lst xs)
  but : But p H H'
  new : H D = none
  pool : PoolB H' p
  ne : D ≠ p
theorem LcB.start {p : Addr} {H : Hp} {D : Addr} (h : H D = none) (hp : PoolB H p) : LcB p H D (L2.upd H D (.lst [])) [] :=
  ⟨upd_same, But.of (same_new h), h, hp.new h, fun e => by
    obtain ⟨n, m, q, _⟩ := hp
    rw [e, q] at h
    cases h⟩
theorem LcB.keep {p : Addr} {H H' H4 : Hp} {D : Addr} {xs : List V} (h : LcB p H D H' xs) (s : But p H' H4) (q : PoolB H4 p) : LcB p H D H4 xs := ⟨s _ _ h.ne h.it, h.but.trans s, h.new, q, h.ne⟩
theorem LcB.push {p : Addr} {H H' : Hp} {D : Addr} {xs : List V} {y : V} (h : LcB p H D H' xs) : LcB p H D (L2.upd H' D (.lst (xs ++ [y]))) (xs ++ [y]) :=
  ⟨upd_same, fun b o n e => by
    rw [upd_ne (ne_of_none e h.new)]
    exact h.but b o n e, h.new, by
    obtain ⟨m, m2, q, q2⟩ := h.pool
    exact ⟨m, m2, by rw [upd_ne (Ne.symm h.ne)]; exact q, q2⟩, h.ne⟩
end Sl

namespace L2.Own
open PySem PySem.Spec PyProof.Rows Sl
section
variable {X : Cx} {CX : CXT} {k : Nat} {f : Addr} {fd : FuncData} {ps ks : List Str} {sp : Sp} {E : XK} {x : Str} {p pos : Pos} {kws : List Keyword} {tk : TA} {g : List Value → List Value → List Value} {gV : List V → List V → List V}
/-- f(k = v, ..): no value by its place -/
def tCallK0 (sp : Sp) (m : Nat) (gV : List V → List V → List V) (E : XK) (tk : TA) : TE := fun σ H Q => tk σ H fun zs H2 => zs.length = m ∧ sp (gV [] zs) H2 Q E
theorem pe_callK0 (F : FnOk X.prog X.w X.K X.mg X.base CX k f fd ps sp) (hr : Room k X.A) (hg : Gl X x) (hm : X.mg x = some (.ref f)) (hk : PySem.W.keepIn X.K (.ref f) = true) (hb : KBn X.K fd ps 0 ks g gV) (hx : Passes CX X E) (hkw : PK X kws tk)
    (hall : (backToKw pos (keywordEach kws X.env)).all (·.1.isSome) = true := by rfl) (hks : (backToKw pos (keywordEach kws X.env)).filterMap (·.1) = ks := by rfl) (hdb : (x == ("__debug__" : Str)) = false := by decide)
    (hpl : ((backTo pos (starEach [] X.env)).any (·.1) || (backToKw pos (keywordEach kws X.env)).any (·.1.isNone)) = false := by rfl) : PE X (.Call (.Name x p) [] kws pos) (tCallK0 sp ks.length gV E tk) := by
  refine ⟨fun pins s σ H Q I hh => wpAny_Call_Name_kw (ld_glob I hg hm (PySem.W.callWith_KW0 (h₀ := X.base) I.ok.mod.kin hk hall ?_ hpl) hdb)⟩
  refine thn (hkw.run pos pins s σ H _ I hh) fun ws s2 ⟨zs, H2, I2, rz, l2, q2⟩ => ⟨I2.kIn, ?_⟩
  rw [hks]
  have r2 := hb.rel (vs := []) (us := []) .nil rz
  have b := hb.to s2 [] ws I2.kIn rfl (by rw [← rz.length]; exact l2)
  refine wpAny_call (codeAny_mono (F.run X.A X.stack s2 H2 ⟨[], ks.zip ws⟩ (g [] ws) (gV [] zs) Q E hr I2.env0 b r2 q2) fun r s' hq => ?_)
  cases r with
  | error e => exact hx pins σ H2 s2 e s' I2 hq
  | ok fl =>
    cases fl with
    | ret u => exact I2.after hq
    | next => exact hq.elim
    | brk => exact hq.elim
    | cont => exact hq.elim
end
end L2.Own

namespace Sl
open PySem PySem.Spec PyProof.Rows L2
theorem PoolAt.lst {H : Hp} {p : Addr} (h : PoolAt H p) : ∃ xs, H p = some (.lst xs) := let ⟨n, e⟩ := h; ⟨_, e⟩
theorem PoolAt.ne {H : Hp} {p q : Addr} (h : PoolAt H p) (hq : H q = none) : q ≠ p := fun e => by
  obtain ⟨n, h⟩ := h
  rw [e, h] at hq
  cases hq
theorem free_butA {p : Addr} {H H' : Hp} {l : Addr} (hp : PoolAt H' p) (b : But p H H') (h : H' l = none) : H l = none := by
  have hn := hp.ne h
  cases hh : H l with
  | none => rfl
  | some o =>
    rw [b _ _ hn hh] at h
    cases h
/-- a list that stands while is drawn -/
theorem pick_keep {H H2 : Hp} {p c : Addr} {o : HO} (hp : PoolAt H p) (hc : H c = none) (b : But p (L2.upd H c o) H2) : H2 c = some o ∧ But p H H2 ∧ c ≠ p := by
  have hn := hp.ne hc
  exact ⟨b _ _ hn upd_same, (But.of (same_new hc)).trans b, hn⟩
theorem pick_keepB {H H2 : Hp} {p c : Addr} {o : HO} (hp : PoolB H p) (hc : H c = none) (b : But p (L2.upd H c o) H2) : H2 c = some o ∧ But p H H2 ∧ c ≠ p := by
  have hn := hp.ne hc
  exact ⟨b _ _ hn upd_same, (But.of (same_new hc)).trans b, hn⟩
theorem at_any {xs : List V} {e : Int} (h0 : 0 ≤ e) (h1 : e < (xs.length : Nat)) : ∃ v, atI xs e = some v ∧ v ∈ xs := by
  have hd : e.toNat < xs.length := by omega
  have g : xs[e.toNat]? = some xs[e.toNat] := List.getElem?_eq_getElem hd
  refine ⟨_, ?_, List.mem_of_getElem? g⟩
  have := atI_nat g
  rw [Int.toNat_of_nonneg h0] at this
  exact this
theorem but_new {p : Addr} {H H1 H2 : Hp} (s : Same H H1) (hp : H p = none) (b : But p H1 H2) : Same H H2 := fun x o h => b x o (ne_of_none h hp) (s x o h)
theorem Tups.poolA {p : Addr} {H H' : Hp} (hp : PoolAt H p) (s : But p H H') : Tups H H' := let ⟨_, h⟩ := hp.lst; Tups.but h s
theorem Tups.poolB {p : Addr} {H H' : Hp} (hp : PoolB H p) (s : But p H H') : Tups H H' := let ⟨_, h⟩ := hp.lst; Tups.but h s
theorem big30 : (10 : Int) ^ (30 : Int).toNat = 1000000000000000000000000000000 := by decide
/-- an instance as it is made: what stood stands -/
theorem mk_new {H : Hp} {x dx C : Addr} (hx : H x = none) (hdx : H dx = none) (ne : dx ≠ x) : Same H (L2.upd (L2.upd H dx (.own x)) x (.ins C dx [])) := (same_new hdx).trans (same_new (by rw [upd_ne (Ne.symm ne)]; exact hx))
theorem mk_same {H H' : Hp} {x dx C : Addr} (hx : H x = none) (hdx : H dx = none) (ne : dx ≠ x) (pres : ∀ b o, b ≠ x → (L2.upd (L2.upd H dx (.own x)) x (.ins C dx [])) b = some o → H' b = some o) : Same H H' :=
  fun b o hb => pres b o (ne_of_none hb hx) (mk_new hx hdx ne _ _ hb)
end Sl

namespace L2.Own
open PySem PySem.Spec PyProof.Rows
/-! ## calls with keywords: each parameter's value is picked from the written ones, the defaults, the keywords' -/
def pick {α : Type} (ix : List Nat) (l : List α) : List α := ix.filterMap fun i => l[i]?
theorem pick_vals {xs : List V} {ys : List Value} (h : Vals xs ys) : ∀ ix : List Nat, Vals (pick ix xs) (pick ix ys)
  | [] => .nil
  | i :: ix => by
    have t := pick_vals h ix
    unfold pick at t ⊢
    rcases Nat.lt_or_ge i xs.length with hi | hi
    · have hx : xs[i]? = some xs[i] := List.getElem?_eq_getElem hi
      obtain ⟨u, hu, r⟩ := h.get hx
      rw [List.filterMap_cons_some hx, List.filterMap_cons_some hu]
      exact .cons r t
    · have hy : ys.length ≤ i := by rw [← h.length]; exact hi
      rw [List.filterMap_cons_none (List.getElem?_eq_none hi), List.filterMap_cons_none (List.getElem?_eq_none hy)]
      exact t
section
variable {K : PySem.W.Frag} {x qual : Str} {params : Arguments} {body : List Stmt} {scope : Scope} {dvs : List V} {kws : List (Str × V)} {f : Addr} {fd : FuncData} {ps : List Str}
theorem kb_dfl (F : FunD K x qual params body scope dvs kws f fd) (n : Nat) (ks : List Str) (ix : List Nat) (hd : dvs ≠ [])
    (h : ∀ (T : Addr) (kV doc pm : Value) (an : Option Addr) (cdv ct : Value) (us its ws : List Value), us.length = n → its.length = dvs.length → ws.length = ks.length →
      ∃ k, bindArgs (PySem.W.fnOf x qual params body scope (.ref T) kV doc pm an cdv ct) ⟨us, ks.zip ws⟩ = seqItems? (.ref T) >>= k ∧ k (some its.toArray) = pure (ps.zip (pick ix (us ++ its ++ ws)))) :
    ∃ its : List Value, KBn K fd ps n ks (fun us ws => pick ix (us ++ its ++ ws)) (fun vs zs => pick ix (vs ++ dvs ++ zs)) :=
  F.kbindsD n ks (fun us its ws => pick ix (us ++ its ++ ws)) hd (fun h1 h2 h3 => pick_vals ((h1.append h2).append h3) ix) h
theorem kb_own (F : FunD K x qual params body scope [] kws f fd) (n : Nat) (ks : List Str) (ix : List Nat)
    (h : ∀ (kV doc pm : Value) (an : Option Addr) (cdv ct : Value) (us ws : List Value), us.length = n → ws.length = ks.length →
      bindArgs (PySem.W.fnOf x qual params body scope .none kV doc pm an cdv ct) ⟨us, ks.zip ws⟩ = pure (ps.zip (pick ix (us ++ [] ++ ws)))) :
    ∃ its : List Value, KBn K fd ps n ks (fun us ws => pick ix (us ++ its ++ ws)) (fun vs zs => pick ix (vs ++ [] ++ zs)) := by
  obtain ⟨oc, od, dV, kV, doc, pm, an, cdv, ct, osl, e, lk, hcd, hD, hK⟩ := F.ex
  rcases hD with ⟨_, rfl⟩ | ⟨z, _⟩
  · refine ⟨[], ⟨fun s us ws X l1 l2 => ?_, fun r1 r2 => pick_vals ((r1.append .nil).append r2) ix⟩⟩
    rw [e]
    exact .of_eq (h kV doc pm an cdv ct us ws l1 l2)
  · exact absurd rfl z
end
end L2.Own


namespace S11
open PySem PySem.Spec PyProof.Rows L2 L2.Own He Sl
def top (i : Nat) : Stmt := PySem.Challenge.pw_stripelay_k02_threads_and_stripes.main.body.getD i (.Pass ⟨0, 0, 0, 0⟩)
abbrev s_is_whole : Stmt := top 24
abbrev s_are_letters : Stmt := top 28
abbrev s_is_shade : Stmt := top 29
abbrev s_is_stripe : Stmt := top 30
abbrev s_first_wrong : Stmt := top 31
abbrev s_are_threads : Stmt := top 32
abbrev s_threads_of : Stmt := top 33
abbrev s_stripes_of : Stmt := top 34
abbrev s__law_pool : Stmt := top 36
abbrev s__law_take : Stmt := top 37
abbrev s__law_some_shades : Stmt := top 38
abbrev s__law_drawn_stripes : Stmt := top 39
abbrev s__law_threads : Stmt := top 40
abbrev s__law_sort : Stmt := top 41
abbrev s__law_whole : Stmt := top 42
abbrev s__law_are_fewest : Stmt := top 43
abbrev s__law_refused : Stmt := top 44
abbrev s__law_no_threads : Stmt := top 45
abbrev s_law : Stmt := top 46
abbrev FnP (K : PySem.W.Frag) (x q : Str) (st : Stmt) (dv : List V) (f : Addr) (fd : FuncData) : Prop := FunD K x q (defArgs st) (defBody st) (defScope st) dv [] f fd
noncomputable def fdAt (K : PySem.W.Frag) (a : Addr) : FuncData := match K.lookup a with
  | some ⟨_, _, .func fd, _⟩ => fd
  | _ => PySem.W.fnOf "law" "law" (defArgs s_law) (defBody s_law) (defScope s_law) .none .none .none .none none .none .none
noncomputable abbrev fdOf (K : PySem.W.Frag) (x : Str) : FuncData := fdAt K (ga K x)
theorem fdAt_eq {K : PySem.W.Frag} {x q : Str} {st : Stmt} {dv : List V} {a : Addr} {fd : FuncData} (F : FnP K x q st dv a fd) : FnP K x q st dv a (fdAt K a) := by
  have e : fdAt K a = fd := by
    obtain ⟨oc, od, dV, kV, doc, pm, an, cdv, ct, osl, rfl, lk, _⟩ := F.ex
    unfold fdAt
    rw [lk]
  rw [e]
  exact F
structure Txt (K : PySem.W.Frag) (mg : Str → Option Value) : Prop where
  f_len : mg "len" = none
  f_isinstance : mg "isinstance" = none
  f_all : mg "all" = none
  f_any : mg "any" = none
  f_tuple : mg "tuple" = none
  f_range : mg "range" = none
  f_enumerate : mg "enumerate" = none
  f_sum : mg "sum" = none
  f_abs : mg "abs" = none
  f_divmod : mg "divmod" = none
  f_max : mg "max" = none
  f_min : mg "min" = none
  f_list : mg "list" = none
  f_str : mg "str" = none
  f_int : mg "int" = none
  f_bool : mg "bool" = none
  f_repr : mg "repr" = none
  f_sorted : mg "sorted" = none
  f_set : mg "set" = none
  f_zip : mg "zip" = none
  f_dict : mg "dict" = none
  f_reversed : mg "reversed" = none
  f_ValueError : mg "ValueError" = none
  f_IndexError : mg "IndexError" = none
  f_KeyError : mg "KeyError" = none
  f_ZeroDivisionError : mg "ZeroDivisionError" = none
  f_LookupError : mg "LookupError" = none
  m_MOST_THREADS : ∃ t, mg "MOST_THREADS" = some (.int (240) t)
  m_MOST_LETTERS : ∃ t, mg "MOST_LETTERS" = some (.int (3) t)
  c_StripeError : mg "StripeError" = some (.ref (ga K "StripeError"))
  c_NoStripes : mg "NoStripes" = some (.ref (ga K "NoStripes"))
  c_NoThreads : mg "NoThreads" = some (.ref (ga K "NoThreads"))
  c_NoManner : mg "NoManner" = some (.ref (ga K "NoManner"))
  c_TooLong : mg "TooLong" = some (.ref (ga K "TooLong"))
  c_NoText : mg "NoText" = some (.ref (ga K "NoText"))
  c_NoNumber : mg "NoNumber" = some (.ref (ga K "NoNumber"))
  c_NoBox : mg "NoBox" = some (.ref (ga K "NoBox"))
  c_TooMany : mg "TooMany" = some (.ref (ga K "TooMany"))
  c_NoUndo : mg "NoUndo" = some (.ref (ga K "NoUndo"))
  c_NoOrder : mg "NoOrder" = some (.ref (ga K "NoOrder"))
  c_SpotError : mg "SpotError" = some (.ref (ga K "SpotError"))
  c_NoSpot : mg "NoSpot" = some (.ref (ga K "NoSpot"))
  c_NoCut : mg "NoCut" = some (.ref (ga K "NoCut"))
  c_ShadeError : mg "ShadeError" = some (.ref (ga K "ShadeError"))
  c_NoShade : mg "NoShade" = some (.ref (ga K "NoShade"))
  c_NoName : mg "NoName" = some (.ref (ga K "NoName"))
  c_StepError : mg "StepError" = some (.ref (ga K "StepError"))
  c_NoStep : mg "NoStep" = some (.ref (ga K "NoStep"))
  c_WayError : mg "WayError" = some (.ref (ga K "WayError"))
  c_NoWay : mg "NoWay" = some (.ref (ga K "NoWay"))
  c_NoWeave : mg "NoWeave" = some (.ref (ga K "NoWeave"))
  g_is_whole : mg "is_whole" = some (.ref (ga K "is_whole"))
  F_is_whole : FnP K "is_whole" "is_whole" s_is_whole [] (ga K "is_whole") (fdOf K "is_whole")
  g_are_letters : mg "are_letters" = some (.ref (ga K "are_letters"))
  F_are_letters : FnP K "are_letters" "are_letters" s_are_letters [] (ga K "are_letters") (fdOf K "are_letters")
  g_is_shade : mg "is_shade" = some (.ref (ga K "is_shade"))
  F_is_shade : FnP K "is_shade" "is_shade" s_is_shade [] (ga K "is_shade") (fdOf K "is_shade")
  g_is_stripe : mg "is_stripe" = some (.ref (ga K "is_stripe"))
  F_is_stripe : FnP K "is_stripe" "is_stripe" s_is_stripe [] (ga K "is_stripe") (fdOf K "is_stripe")
  g_first_wrong : mg "first_wrong" = some (.ref (ga K "first_wrong"))
  F_first_wrong : FnP K "first_wrong" "first_wrong" s_first_wrong [] (ga K "first_wrong") (fdOf K "first_wrong")
  g_are_threads : mg "are_threads" = some (.ref (ga K "are_threads"))
  F_are_threads : FnP K "are_threads" "are_threads" s_are_threads [] (ga K "are_threads") (fdOf K "are_threads")
  g_threads_of : mg "threads_of" = some (.ref (ga K "threads_of"))
  F_threads_of : FnP K "threads_of" "threads_of" s_threads_of [] (ga K "threads_of") (fdOf K "threads_of")
  g_stripes_of : mg "stripes_of" = some (.ref (ga K "stripes_of"))
  F_stripes_of : FnP K "stripes_of" "stripes_of" s_stripes_of [] (ga K "stripes_of") (fdOf K "stripes_of")
  g__law_pool : mg "_law_pool" = some (.ref (ga K "_law_pool"))
  F__law_pool : FnP K "_law_pool" "_law_pool" s__law_pool [] (ga K "_law_pool") (fdOf K "_law_pool")
  g__law_take : mg "_law_take" = some (.ref (ga K "_law_take"))
  F__law_take : FnP K "_law_take" "_law_take" s__law_take [] (ga K "_law_take") (fdOf K "_law_take")
  g__law_some_shades : mg "_law_some_shades" = some (.ref (ga K "_law_some_shades"))
  F__law_some_shades : FnP K "_law_some_shades" "_law_some_shades" s__law_some_shades [] (ga K "_law_some_shades") (fdOf K "_law_some_shades")
  g__law_drawn_stripes : mg "_law_drawn_stripes" = some (.ref (ga K "_law_drawn_stripes"))
  F__law_drawn_stripes : FnP K "_law_drawn_stripes" "_law_drawn_stripes" s__law_drawn_stripes [] (ga K "_law_drawn_stripes") (fdOf K "_law_drawn_stripes")
  g__law_threads : mg "_law_threads" = some (.ref (ga K "_law_threads"))
  F__law_threads : FnP K "_law_threads" "_law_threads" s__law_threads [] (ga K "_law_threads") (fdOf K "_law_threads")
  g__law_sort : mg "_law_sort" = some (.ref (ga K "_law_sort"))
  F__law_sort : FnP K "_law_sort" "_law_sort" s__law_sort [] (ga K "_law_sort") (fdOf K "_law_sort")
  g__law_whole : mg "_law_whole" = some (.ref (ga K "_law_whole"))
  F__law_whole : FnP K "_law_whole" "_law_whole" s__law_whole [] (ga K "_law_whole") (fdOf K "_law_whole")
  g__law_are_fewest : mg "_law_are_fewest" = some (.ref (ga K "_law_are_fewest"))
  F__law_are_fewest : FnP K "_law_are_fewest" "_law_are_fewest" s__law_are_fewest [] (ga K "_law_are_fewest") (fdOf K "_law_are_fewest")
  g__law_refused : mg "_law_refused" = some (.ref (ga K "_law_refused"))
  F__law_refused : FnP K "_law_refused" "_law_refused" s__law_refused [] (ga K "_law_refused") (fdOf K "_law_refused")
  g__law_no_threads : mg "_law_no_threads" = some (.ref (ga K "_law_no_threads"))
  F__law_no_threads : FnP K "_law_no_threads" "_law_no_threads" s__law_no_threads [] (ga K "_law_no_threads") (fdOf K "_law_no_threads")
  g_law : mg "law" = some (.ref (ga K "law"))
  F_law : FnP K "law" "law" s_law [] (ga K "law") (fdOf K "law")
  xc_NoThreads : PySem.W.excIn K (ga K "NoThreads") veBase "ValueError.__new__" = true ∧ PySem.W.keepIn K (.ref (ga K "NoThreads")) = true ∧ PySem.W.subIn K (.ref (ga K "NoThreads")) (.type "BaseException") = some true ∧ PySem.W.typeIn K (.ref (ga K "NoThreads")) = some (.type "type")
  xm_NoThreads : PySem.W.exmOne K (.ref (ga K "NoThreads")) (.ref (ga K "StripeError")) = some true
  xe_NoThreads : ExcC K (ga K "NoThreads")
  xi_NoThreads_StripeError : PySem.W.kitOne K (.ref (ga K "NoThreads")) (.ref (ga K "StripeError")) = some true
  xi_NoThreads_NoStripes : PySem.W.kitOne K (.ref (ga K "NoThreads")) (.ref (ga K "NoStripes")) = some false
  xi_NoThreads_NoThreads : PySem.W.kitOne K (.ref (ga K "NoThreads")) (.ref (ga K "NoThreads")) = some true
  xi_NoThreads_NoManner : PySem.W.kitOne K (.ref (ga K "NoThreads")) (.ref (ga K "NoManner")) = some false
  xi_NoThreads_TooLong : PySem.W.kitOne K (.ref (ga K "NoThreads")) (.ref (ga K "TooLong")) = some false
  xi_NoThreads_NoText : PySem.W.kitOne K (.ref (ga K "NoThreads")) (.ref (ga K "NoText")) = some false
  xi_NoThreads_NoNumber : PySem.W.kitOne K (.ref (ga K "NoThreads")) (.ref (ga K "NoNumber")) = some false
  xi_NoThreads_NoBox : PySem.W.kitOne K (.ref (ga K "NoThreads")) (.ref (ga K "NoBox")) = some false
  xi_NoThreads_TooMany : PySem.W.kitOne K (.ref (ga K "NoThreads")) (.ref (ga K "TooMany")) = some false
  xi_NoThreads_NoUndo : PySem.W.kitOne K (.ref (ga K "NoThreads")) (.ref (ga K "NoUndo")) = some false
  xi_NoThreads_NoOrder : PySem.W.kitOne K (.ref (ga K "NoThreads")) (.ref (ga K "NoOrder")) = some false
  xi_NoThreads_SpotError : PySem.W.kitOne K (.ref (ga K "NoThreads")) (.ref (ga K "SpotError")) = some false
  xi_NoThreads_NoSpot : PySem.W.kitOne K (.ref (ga K "NoThreads")) (.ref (ga K "NoSpot")) = some false
  xi_NoThreads_NoCut : PySem.W.kitOne K (.ref (ga K "NoThreads")) (.ref (ga K "NoCut")) = some false
  xi_NoThreads_ShadeError : PySem.W.kitOne K (.ref (ga K "NoThreads")) (.ref (ga K "ShadeError")) = some false
  xi_NoThreads_NoShade : PySem.W.kitOne K (.ref (ga K "NoThreads")) (.ref (ga K "NoShade")) = some false
  xi_NoThreads_NoName : PySem.W.kitOne K (.ref (ga K "NoThreads")) (.ref (ga K "NoName")) = some false
  xi_NoThreads_StepError : PySem.W.kitOne K (.ref (ga K "NoThreads")) (.ref (ga K "StepError")) = some false
  xi_NoThreads_NoStep : PySem.W.kitOne K (.ref (ga K "NoThreads")) (.ref (ga K "NoStep")) = some false
  xi_NoThreads_WayError : PySem.W.kitOne K (.ref (ga K "NoThreads")) (.ref (ga K "WayError")) = some false
  xi_NoThreads_NoWay : PySem.W.kitOne K (.ref (ga K "NoThreads")) (.ref (ga K "NoWay")) = some false
  xi_NoThreads_NoWeave : PySem.W.kitOne K (.ref (ga K "NoThreads")) (.ref (ga K "NoWeave")) = some false
  xi_NoThreads_ValueError : PySem.W.kitOne K (.ref (ga K "NoThreads")) (.type "ValueError") = some true
  xi_NoThreads_IndexError : PySem.W.kitOne K (.ref (ga K "NoThreads")) (.type "IndexError") = some false
  xi_NoThreads_KeyError : PySem.W.kitOne K (.ref (ga K "NoThreads")) (.type "KeyError") = some false
  xi_NoThreads_ZeroDivisionError : PySem.W.kitOne K (.ref (ga K "NoThreads")) (.type "ZeroDivisionError") = some false
  xi_NoThreads_LookupError : PySem.W.kitOne K (.ref (ga K "NoThreads")) (.type "LookupError") = some false
section
variable {K : PySem.W.Frag} {mg : Str → Option Value}
theorem Txt.b_is_whole (T : Txt K mg) : Binds K (fdOf K "is_whole") ["thing"] [] := T.F_is_whole.bindsN fun _ _ _ _ _ _ us hl => match us, hl with | [_], _ => rfl
theorem Txt.b_are_letters (T : Txt K mg) : Binds K (fdOf K "are_letters") ["thing", "most"] [] := T.F_are_letters.bindsN fun _ _ _ _ _ _ us hl => match us, hl with | [_, _], _ => rfl
theorem Txt.b_is_shade (T : Txt K mg) : Binds K (fdOf K "is_shade") ["thing"] [] := T.F_is_shade.bindsN fun _ _ _ _ _ _ us hl => match us, hl with | [_], _ => rfl
theorem Txt.b_is_stripe (T : Txt K mg) : Binds K (fdOf K "is_stripe") ["thing"] [] := T.F_is_stripe.bindsN fun _ _ _ _ _ _ us hl => match us, hl with | [_], _ => rfl
theorem Txt.b_first_wrong (T : Txt K mg) : Binds K (fdOf K "first_wrong") ["stripes"] [] := T.F_first_wrong.bindsN fun _ _ _ _ _ _ us hl => match us, hl with | [_], _ => rfl
theorem Txt.b_are_threads (T : Txt K mg) : Binds K (fdOf K "are_threads") ["thing"] [] := T.F_are_threads.bindsN fun _ _ _ _ _ _ us hl => match us, hl with | [_], _ => rfl
theorem Txt.b_threads_of (T : Txt K mg) : Binds K (fdOf K "threads_of") ["stripes"] [] := T.F_threads_of.bindsN fun _ _ _ _ _ _ us hl => match us, hl with | [_], _ => rfl
theorem Txt.b_stripes_of (T : Txt K mg) : Binds K (fdOf K "stripes_of") ["threads"] [] := T.F_stripes_of.bindsN fun _ _ _ _ _ _ us hl => match us, hl with | [_], _ => rfl
theorem Txt.b__law_pool (T : Txt K mg) : Binds K (fdOf K "_law_pool") ["_law_script", "_law_k"] [] := T.F__law_pool.bindsN fun _ _ _ _ _ _ us hl => match us, hl with | [_, _], _ => rfl
theorem Txt.b__law_take (T : Txt K mg) : Binds K (fdOf K "_law_take") ["_law_pool_here", "_law_many"] [] := T.F__law_take.bindsN fun _ _ _ _ _ _ us hl => match us, hl with | [_, _], _ => rfl
theorem Txt.b__law_some_shades (T : Txt K mg) : Binds K (fdOf K "_law_some_shades") ["_law_pool_here", "_law_many"] [] := T.F__law_some_shades.bindsN fun _ _ _ _ _ _ us hl => match us, hl with | [_, _], _ => rfl
theorem Txt.b__law_drawn_stripes (T : Txt K mg) : Binds K (fdOf K "_law_drawn_stripes") ["_law_pool_here", "_law_shades", "_law_most", "_law_wide"] [] := T.F__law_drawn_stripes.bindsN fun _ _ _ _ _ _ us hl => match us, hl with | [_, _, _, _], _ => rfl
theorem Txt.b__law_threads (T : Txt K mg) : Binds K (fdOf K "_law_threads") ["_law_stripes"] [] := T.F__law_threads.bindsN fun _ _ _ _ _ _ us hl => match us, hl with | [_], _ => rfl
theorem Txt.b__law_sort (T : Txt K mg) : Binds K (fdOf K "_law_sort") ["_law_caught"] [] := T.F__law_sort.bindsN fun _ _ _ _ _ _ us hl => match us, hl with | [_], _ => rfl
theorem Txt.b__law_whole (T : Txt K mg) : Binds K (fdOf K "_law_whole") ["_law_thing"] [] := T.F__law_whole.bindsN fun _ _ _ _ _ _ us hl => match us, hl with | [_], _ => rfl
theorem Txt.b__law_are_fewest (T : Txt K mg) : Binds K (fdOf K "_law_are_fewest") ["_law_words", "_law_found"] [] := T.F__law_are_fewest.bindsN fun _ _ _ _ _ _ us hl => match us, hl with | [_, _], _ => rfl
theorem Txt.b__law_refused (T : Txt K mg) : Binds K (fdOf K "_law_refused") ["_law_thing"] [] := T.F__law_refused.bindsN fun _ _ _ _ _ _ us hl => match us, hl with | [_], _ => rfl
theorem Txt.b__law_no_threads (T : Txt K mg) : Binds K (fdOf K "_law_no_threads") ["_law_pool_here", "_law_words"] [] := T.F__law_no_threads.bindsN fun _ _ _ _ _ _ us hl => match us, hl with | [_, _], _ => rfl
theorem Txt.b_law (T : Txt K mg) : Binds K (fdOf K "law") ["_law_script"] [] := T.F_law.bindsN fun _ _ _ _ _ _ us hl => match us, hl with | [_], _ => rfl
end
end S11

namespace S11
open PySem PySem.Spec PyProof.Rows L2 L2.Own He Sl
/-! ## kinds -/
def strV : V → Bool
  | .str _ => true
  | _ => false
def intV : V → Bool
  | .int _ => true
  | .bl _ => true
  | _ => false
def blV : V → Bool
  | .bl _ => true
  | _ => false
def wholeV : V → Bool
  | .int _ => true
  | _ => false
def tupV (H : Hp) : V → Bool
  | .ref a => (match H a with
    | some (.tup _) => true
    | _ => false)
  | _ => false
theorem Th.ty {K : PySem.W.Frag} {H : Hp} {v : V} (h : Th H v) : ∃ t, TyX K H v (.type t) ∧ kitB t "str" = some (strV v) ∧ kitB t "int" = some (intV v) ∧ kitB t "bool" = some (blV v) ∧ kitB t "tuple" = some (tupV H v) := by
  cases h with
  | non => exact ⟨_, .base .non, by decide +kernel, by decide +kernel, by decide +kernel, by show kitB "NoneType" "tuple" = some false; decide +kernel⟩
  | bl b => exact ⟨_, .base (.bl b), by show kitB "bool" "str" = some false; decide +kernel, by show kitB "bool" "int" = some true; decide +kernel, by show kitB "bool" "bool" = some true; decide +kernel, by show kitB "bool" "tuple" = some false; decide +kernel⟩
  | int i => exact ⟨_, .base (.int i), by show kitB "int" "str" = some false; decide +kernel, by show kitB "int" "int" = some true; decide +kernel, by show kitB "int" "bool" = some false; decide +kernel, by show kitB "int" "tuple" = some false; decide +kernel⟩
  | str z h => exact ⟨_, .base (.str z), by show kitB "str" "str" = some true; decide +kernel, by show kitB "str" "int" = some false; decide +kernel, by show kitB "str" "bool" = some false; decide +kernel, by show kitB "str" "tuple" = some false; decide +kernel⟩
  | @lst a xs h =>
    have e : tupV H (.ref a) = false := by simp only [tupV, h]
    rw [e]
    exact ⟨_, .base (.lst h), by show kitB "list" "str" = some false; decide +kernel, by show kitB "list" "int" = some false; decide +kernel, by show kitB "list" "bool" = some false; decide +kernel, by decide +kernel⟩
  | @tup a xs h =>
    have e : tupV H (.ref a) = true := by simp only [tupV, h]
    rw [e]
    exact ⟨_, .base (.tup h), by show kitB "tuple" "str" = some false; decide +kernel, by show kitB "tuple" "int" = some false; decide +kernel, by show kitB "tuple" "bool" = some false; decide +kernel, by decide +kernel⟩
  | @dic a xs h =>
    have e : tupV H (.ref a) = false := by simp only [tupV, h]
    rw [e]
    exact ⟨_, .base (.dK h), by show kitB "dict" "str" = some false; decide +kernel, by show kitB "dict" "int" = some false; decide +kernel, by show kitB "dict" "bool" = some false; decide +kernel, by decide +kernel⟩
/-! ## promises -/
def spWhole : Sp := fun vs H Q _ => ∃ v, vs = [v] ∧ Th H v ∧ Q (.bl (wholeV v)) H
def spShade : Sp := fun vs H Q _ => ∃ v, vs = [v] ∧ Th H v ∧ ∀ H', Same H H' → Q (.bl (shV v)) H'
section
variable {P : Program} {w : World} {K : PySem.W.Frag} {mg : Str → Option Value} {base : Heap}
def N_is_whole : List Str := ["thing"]
theorem sc_is_whole : FnScope N_is_whole ["thing"] (defScope s_is_whole) := ⟨rfl, rfl, rfl, by decide +kernel, rfl, by decide +kernel, by decide +kernel⟩
theorem ok_is_whole (T : Txt K mg) : FnOk P w K mg base CX0 2 (ga K "is_whole") (fdOf K "is_whole") ["thing"] spWhole := by
  refine T.F_is_whole.ok sc_is_whole (fun vs H Q E h => ?_) (fun cdv A outer s H vs Q E hr h => ?_)
  · obtain ⟨v, rfl, _⟩ := h
    rfl
  · obtain ⟨v, rfl, hv, hQ⟩ := h
    obtain ⟨t, ty, k1, k2, k3, k4⟩ := Th.ty (K := K) hv
    refine ⟨_, PSs.nox (pss_one (ps_ret (pe_and (pe_callB call_isi (by rfl) T.f_isinstance (by decide +kernel) (pa_cons (pv 0) (pa_cons (pe_bltn (v := .ty "int") (by rfl) T.f_int (by decide +kernel) rfl) pa_nil))) (pe_one (pe_not (pe_callB call_isi (by rfl) T.f_isinstance (by decide +kernel) (pa_cons (pv 0) (pa_cons (pe_bltn (v := .ty "bool") (by rfl) T.f_bool (by decide +kernel) rfl) pa_nil)))))))), ?_⟩
    refine ⟨_, rfl, _, _, _, _, _, rfl, .ty _, ty, kit_ty k2, _, rfl, ite2 (fun c => ?_) fun c => ?_⟩
    · refine ⟨_, rfl, _, _, _, _, _, rfl, .ty _, ty, kit_ty k3, _, rfl, ?_⟩
      have e : (!blV v) = wholeV v := by
        cases v with
        | int i => rfl
        | bl b => rfl
        | _ => cases c
      show Q (.bl (!blV v)) H
      rw [e]
      exact hQ
    · have e : wholeV v = false := by
        cases v with
        | int i => exact absurd rfl c
        | _ => rfl
      rw [e] at hQ
      exact hQ
end
end S11

namespace S11
open PySem PySem.Spec PyProof.Rows L2 L2.Own He Sl
section
variable {P : Program} {w : World} {K : PySem.W.Frag} {mg : Str → Option Value} {base : Heap}
/-- slots: 0 thing, 1 most, 2 letter -/
def N_are_letters : List Str := ["thing", "most", "letter"]
theorem sc_are_letters : FnScope N_are_letters ["thing", "most"] (defScope s_are_letters) := ⟨rfl, rfl, rfl, by decide +kernel, rfl, by decide +kernel, by decide +kernel⟩
/-- the promise of are_letters, for three letters at most -/
def spThree : Sp := fun vs H Q _ => ∃ v, vs = [v, .int 3] ∧ Th H v ∧ ∀ H', Same H H' → Q (.bl (shV v)) H'
theorem sign_le (c : Nat) : (!decide ([c] < [97])) = decide (97 ≤ c) := by
  rw [Bool.eq_iff_iff]
  simp [List.cons_lt_cons_iff]
theorem sign_ge (c : Nat) : (!decide ([122] < [c])) = decide (c ≤ 122) := by
  rw [Bool.eq_iff_iff]
  simp [List.cons_lt_cons_iff]
theorem ok_are_letters (T : Txt K mg) : FnOk P w K mg base CX0 1 (ga K "are_letters") (fdOf K "are_letters") ["thing", "most"] spThree := by
  refine T.F_are_letters.ok sc_are_letters (fun vs H Q E h => ?_) (fun cdv A outer s H vs Q E hr h => ?_)
  · obtain ⟨v, rfl, _⟩ := h
    rfl
  · obtain ⟨v, rfl, hv, hQ⟩ := h
    obtain ⟨t, ty, k1, k2, k3, k4⟩ := Th.ty (K := K) hv
    refine ⟨_, PSs.nox (pss_cons (ps_if (PW.pt (pw_or (pt_not (pt_val (pe_callB call_isi (by rfl) T.f_isinstance (by decide +kernel) (pa_cons (pv 0) (pa_cons (pe_bltn (v := .ty "str") (by rfl) T.f_str (by decide +kernel) rfl) pa_nil))))) (pw_or1 (pt_not (pt_chain op_le op_le pe_int (pe_callB call_len (by rfl) T.f_len (by decide +kernel) (pa_cons (pv 0) pa_nil)) (pv 1))))))
    (pss_one (ps_ret pe_bl))
    pss_nil)
    (pss_one (ps_ret (pe_callB (cr_all rfl) (by rfl) T.f_all (by decide +kernel) (pa_cons (pe_lc (own := [("letter", 2)]) rfl sc_are_letters.nd (pi_str (pv 0)) (blkOk_by (own := [("letter", 2)]) (N := N_are_letters) (sc := defScope s_are_letters) (by decide +kernel)) (fun _ _ _ _ _ => (pg_name (i := 2) sc_are_letters.nd rfl (Or.inl rfl))) (fun _ _ _ _ _ => pts_nil) (fun _ _ _ _ _ => (pe_chain op_le_str op_le_str pe_str (pv 2) pe_str))) pa_nil))))), ?_⟩
    refine ⟨_, rfl, _, _, _, _, _, rfl, .ty _, ty, kit_ty k1, _, rfl, ite2 (fun c => iteT ?_) fun c => ?_⟩
    · have e : shV v = false := by
        cases v with
        | str z => cases c
        | _ => rfl
      rw [e] at hQ
      exact hQ H (Same.refl H)
    · cases hv with
      | str z hz =>
        refine ⟨_, rfl, _, _, rfl, ⟨hz, rfl⟩, _, _, rfl, rfl, _, rfl, ite2 (fun d => ?_) fun d => ?_⟩
        · refine ⟨_, rfl, _, _, rfl, rfl, _, rfl, ?_⟩
          refine ite2 (fun e => ?_) fun e => ?_
          · have q : shV (.str z) = false := by
              have e1 : ¬ (z.cps.size ≤ 3) := fun h => by
                have : decide ((z.length : Int) ≤ 3) = true := decide_eq_true (by show (z.cps.size : Int) ≤ 3; omega)
                rw [this] at e
                cases e
              show isSh z = false
              unfold isSh
              rw [decide_eq_false (fun h => e1 h.2)]
              rfl
            rw [q] at hQ
            exact hQ H (Same.refl H)
          · have d1 : 1 ≤ z.cps.size := by
              have h1 : (1 : Int) ≤ (z.cps.size : Int) := of_decide_eq_true d
              omega
            have e1 : z.cps.size ≤ 3 := by
              have h1 : decide ((z.cps.size : Int) ≤ 3) = true := by
                cases q : decide ((z.cps.size : Int) ≤ 3) with
                | true => rfl
                | false => exact absurd (by show (!decide ((z.cps.size : Int) ≤ 3)) = true; rw [q]; rfl) e
              have h2 := of_decide_eq_true h1
              omega
            refine ⟨_, rfl, z, rfl, fun D hD => lc_it walk_str (fun i H' => LcAt H D H' ((z.cps.toList.take i).map fun c => V.bl (decide (97 ≤ c ∧ c ≤ 122)))) (LcAt.start hD) (fun _ _ _ _ => True.intro) (fun i x H0 H1 hi hP hy => ?_) fun H1 hP => ?_⟩
            · obtain ⟨rfl, c, hc, rfl⟩ := hy
              have hc' : z.cps.toList[i]? = some c := by simpa using hc
              have fin : ∀ b : Bool, b = decide (97 ≤ c ∧ c ≤ 122) → ∃ acc, H1 D = some (.lst acc) ∧ acc.length < sizeLine ∧ LcAt H D (upd H1 D (.lst (acc ++ [V.bl b]))) ((z.cps.toList.take (i + 1)).map fun c => V.bl (decide (97 ≤ c ∧ c ≤ 122))) := fun b hb => by
                refine ⟨_, hP.it, ?_, ?_⟩
                · have h3 : ((z.cps.toList.take i).map fun c => V.bl (decide (97 ≤ c ∧ c ≤ 122))).length ≤ 100000 := by
                    rw [List.length_map, List.length_take, Array.length_toList]
                    omega
                  exact small h3
                · rw [take_more hc', List.map_append, hb]
                  exact hP.push
              refine ⟨rfl, _, rfl, _, _, rfl, rfl, _, rfl, ite2 (fun g => ?_) fun g => ?_⟩
              · refine ⟨_, _, rfl, rfl, fin _ ?_⟩
                have g1 : 97 ≤ c := of_decide_eq_true ((sign_le c).symm.trans g)
                show (!decide ([122] < [c])) = _
                rw [sign_ge, Bool.eq_iff_iff, decide_eq_true_iff, decide_eq_true_iff]
                exact ⟨fun h => ⟨g1, h⟩, fun h => h.2⟩
              · refine fin _ ?_
                have g1 : ¬ 97 ≤ c := fun h => g ((sign_le c).trans (decide_eq_true h))
                rw [decide_eq_false fun h => g1 h.1]
            · refine ⟨_, z.cps.toList.map fun c => decide (97 ≤ c ∧ c ≤ 122), rfl, ?_, ?_⟩
              · have q := hP.it
                rw [show z.cps.toList.take z.cps.size = z.cps.toList by rw [← Array.length_toList]; exact List.take_length] at q
                refine SqL.of ?_
                rw [q, List.map_map]
                rfl
              · have q : shV (.str z) = (z.cps.toList.map fun c => decide (97 ≤ c ∧ c ≤ 122)).all id := by
                  show isSh z = _
                  unfold isSh
                  rw [decide_eq_true (⟨d1, e1⟩ : 1 ≤ z.cps.size ∧ z.cps.size ≤ 3), Bool.true_and, List.all_map]
                  rfl
                rw [← q]
                exact hQ H1 hP.same
        · have q : shV (.str z) = false := by
            have e1 : ¬ (1 ≤ z.cps.size) := fun h => d (decide_eq_true (by show (1 : Int) ≤ (z.cps.size : Int); omega))
            show isSh z = false
            unfold isSh
            rw [decide_eq_false (fun h => e1 h.1)]
            rfl
          rw [q] at hQ
          refine ⟨_, rfl, iteT ?_⟩
          exact hQ H (Same.refl H)
      | _ => exact absurd rfl c
/- slots: 0 thing -/
def N_is_shade : List Str := ["thing"]
theorem sc_is_shade : FnScope N_is_shade ["thing"] (defScope s_is_shade) := ⟨rfl, rfl, rfl, by decide +kernel, rfl, by decide +kernel, by decide +kernel⟩
theorem ok_is_shade (T : Txt K mg) : FnOk P w K mg base CX0 2 (ga K "is_shade") (fdOf K "is_shade") ["thing"] (spShade) := by
  have G_are_letters := ok_are_letters (P := P) (w := w) (base := base) T
  refine T.F_is_shade.ok sc_is_shade (fun vs H Q E h => ?_) (fun cdv A outer s H vs Q E hr h => ?_)
  · obtain ⟨v, rfl, _⟩ := h
    rfl
  · obtain ⟨v, rfl, hv, hQ⟩ := h
    refine ⟨_, PSs.nox (pss_one (ps_ret (pe_call G_are_letters (hr.mono (by decide)) (by rfl) T.g_are_letters T.F_are_letters.kp T.b_are_letters .nil pass0 (pa_cons (pv 0) (pa_cons (pe_glob (v := .int 3) rfl T.m_MOST_LETTERS.choose_spec ⟨_, rfl⟩) pa_nil))))), ?_⟩
    exact ⟨_, rfl, v, rfl, hv, hQ⟩
end
end S11

namespace S11
open PySem PySem.Spec PyProof.Rows L2 L2.Own He Sl
def goodT (xs : List V) : Bool := decide (1 ≤ xs.length ∧ xs.length ≤ 240) && xs.all shV
def thrV (H : Hp) : V → Bool
  | .ref a => (match H a with
    | some (.tup xs) => goodT xs
    | _ => false)
  | _ => false
theorem thrV_tup {H : Hp} {a : Addr} {xs : List V} (h : H a = some (.tup xs)) : thrV H (.ref a) = goodT xs := by simp only [thrV, h]
theorem thrV_not {H : Hp} {v : V} (h : tupV H v = false) : thrV H v = false := by
  cases v with
  | ref a =>
    cases e : H a with
    | none => simp only [thrV, e]
    | some o =>
      cases o with
      | tup xs =>
        simp only [tupV, e] at h
        cases h
      | _ => simp only [thrV, e]
  | _ => rfl
theorem tupV_of {H : Hp} {v : V} (h : tupV H v = true) : ∃ a xs, v = .ref a ∧ H a = some (.tup xs) := by
  cases v with
  | ref a =>
    simp only [tupV] at h
    split at h
    · rename_i xs e
      exact ⟨a, xs, rfl, e⟩
    · cases h
  | _ => cases h
/-- a thing whose parts, if it is a tuple, are things -/
def Th2 (H : Hp) (v : V) : Prop := Th H v ∧ ∀ a xs, v = .ref a → H a = some (.tup xs) → ∀ x ∈ xs, Th H x
def spAre : Sp := fun vs H Q _ => ∃ v, vs = [v] ∧ Th2 H v ∧ ∀ H', Same H H' → Q (.bl (thrV H v)) H'
section
variable {P : Program} {w : World} {K : PySem.W.Frag} {mg : Str → Option Value} {base : Heap}
def N_are_threads : List Str := ["thing", "shade"]
theorem sc_are_threads : FnScope N_are_threads ["thing"] (defScope s_are_threads) := ⟨rfl, rfl, rfl, by decide +kernel, rfl, by decide +kernel, by decide +kernel⟩
theorem ok_are_threads (T : Txt K mg) : FnOk P w K mg base CX0 3 (ga K "are_threads") (fdOf K "are_threads") ["thing"] spAre := by
  have G_is_shade := ok_is_shade (P := P) (w := w) (base := base) T
  refine T.F_are_threads.ok sc_are_threads (fun vs H Q E h => ?_) (fun cdv A outer s H vs Q E hr h => ?_)
  · obtain ⟨v, rfl, _⟩ := h
    rfl
  · obtain ⟨v, rfl, ⟨hv, hv2⟩, hQ⟩ := h
    obtain ⟨t, ty, k1, k2, k3, k4⟩ := Th.ty (K := K) hv
    refine ⟨_, PSs.nox (pss_cons (ps_if (PW.pt (pw_or (pt_not (pt_val (pe_callB call_isi (by rfl) T.f_isinstance (by decide +kernel) (pa_cons (pv 0) (pa_cons (pe_bltn (v := .ty "tuple") (by rfl) T.f_tuple (by decide +kernel) rfl) pa_nil))))) (pw_or1 (pt_not (pt_chain op_le op_le pe_int (pe_callB call_len (by rfl) T.f_len (by decide +kernel) (pa_cons (pv 0) pa_nil)) (pe_glob (v := .int 240) rfl T.m_MOST_THREADS.choose_spec ⟨_, rfl⟩))))))
    (pss_one (ps_ret pe_bl))
    pss_nil)
    (pss_one (ps_ret (pe_callB (cr_all rfl) (by rfl) T.f_all (by decide +kernel) (pa_cons (pe_lc (own := [("shade", 1)]) rfl sc_are_threads.nd (pi_tup (pv 0)) (blkOk_by (own := [("shade", 1)]) (N := N_are_threads) (sc := defScope s_are_threads) (by decide +kernel)) (fun _ _ _ _ _ => (pg_name (i := 1) sc_are_threads.nd rfl (Or.inl rfl))) (fun _ _ _ _ _ => pts_nil) (fun _ _ _ _ _ => (pe_call G_is_shade (hr.mono (by decide)) (by rfl) T.g_is_shade T.F_is_shade.kp T.b_is_shade .nil pass0 (pa_cons (pv 1) pa_nil)))) pa_nil))))), ?_⟩
    refine ⟨_, rfl, _, _, _, _, _, rfl, .ty _, ty, kit_ty k4, _, rfl, ite2 (fun c => iteT ?_) fun c => ?_⟩
    · have e : tupV H v = false := by
        cases q : tupV H v with
        | false => rfl
        | true =>
          rw [q] at c
          cases c
      rw [thrV_not e] at hQ
      exact hQ H (Same.refl H)
    · have e : tupV H v = true := by
        cases q : tupV H v with
        | true => rfl
        | false => exact absurd (by rw [q]; rfl) c
      obtain ⟨a, xs, rfl, ha⟩ := tupV_of e
      rw [thrV_tup ha] at hQ
      have hx := hv2 a xs rfl ha
      refine ⟨_, rfl, _, _, rfl, Or.inr ⟨_, SqT.of ha, rfl⟩, _, _, rfl, rfl, _, rfl, ite2 (fun d => ?_) fun d => ?_⟩
      · have d1 : 1 ≤ xs.length := by
          have h1 : (1 : Int) ≤ (xs.length : Int) := of_decide_eq_true d
          omega
        refine ⟨_, _, rfl, rfl, _, rfl, ?_⟩
        refine ite2 (fun e => ?_) fun e => ?_
        · have q : goodT xs = false := by
            have e1 : ¬ (xs.length ≤ 240) := fun h => by
              have : decide ((xs.length : Int) ≤ 240) = true := decide_eq_true (by omega)
              rw [this] at e
              cases e
            unfold goodT
            rw [decide_eq_false (fun h => e1 h.2)]
            rfl
          rw [q] at hQ
          exact hQ H (Same.refl H)
        · have e1 : xs.length ≤ 240 := by
            have h1 : decide ((xs.length : Int) ≤ 240) = true := by
              cases q : decide ((xs.length : Int) ≤ 240) with
              | true => rfl
              | false => exact absurd (by rw [q]; rfl) e
            have h2 := of_decide_eq_true h1
            omega
          refine ⟨_, rfl, a, rfl, ⟨_, SqT.of ha⟩, fun D hD => lc_it (walk_tup (xs := xs)) (fun i H' => LcAt H D H' ((xs.take i).map fun v => V.bl (shV v))) (LcAt.start hD) (fun i H1 _ hP => SqT.of (hP.same _ _ ha)) (fun i x H0 H1 hi hP hy => ?_) fun H1 hP => ?_⟩
          · obtain ⟨rfl, hx1⟩ := hy
            have hm : Th H x := hx x (List.mem_of_getElem? hx1)
            refine ⟨rfl, _, rfl, x, rfl, hm.same hP.same, fun H3 s3 => ⟨_, (hP.keep s3).it, ?_, ?_⟩⟩
            · refine small ?_
              rw [List.length_map, List.length_take]
              omega
            · rw [take_more hx1, List.map_append]
              exact (hP.keep s3).push
          · refine ⟨_, xs.map shV, rfl, ?_, ?_⟩
            · have q := hP.it
              rw [List.take_length] at q
              refine SqL.of ?_
              rw [q, List.map_map]
              rfl
            · have q : goodT xs = (xs.map shV).all id := by
                unfold goodT
                rw [decide_eq_true (⟨d1, e1⟩ : 1 ≤ xs.length ∧ xs.length ≤ 240), Bool.true_and, List.all_map]
                rfl
              rw [← q]
              exact hQ H1 hP.same
      · have q : goodT xs = false := by
          have e1 : ¬ (1 ≤ xs.length) := fun h => d (decide_eq_true (by show (1 : Int) ≤ (xs.length : Int); omega))
          unfold goodT
          rw [decide_eq_false (fun h => e1 h.1)]
          rfl
        rw [q] at hQ
        refine ⟨_, rfl, iteT ?_⟩
        exact hQ H (Same.refl H)
end
end S11

namespace S11
open PySem PySem.Spec PyProof.Rows L2 L2.Own He Sl
/-- whether a thing is a stripe, and its count -/
def pairV : List V → Option Int
  | [x, .int n] => if shV x = true ∧ 1 ≤ n then some n else none
  | _ => none
def strpV (H : Hp) : V → Option Int
  | .ref a => (match H a with
    | some (.tup xs) => pairV xs
    | _ => none)
  | _ => none
theorem strpV_tup {H : Hp} {a : Addr} {xs : List V} (h : H a = some (.tup xs)) : strpV H (.ref a) = pairV xs := by simp only [strpV, h]
theorem strpV_not {H : Hp} {v : V} (h : tupV H v = false) : strpV H v = none := by
  cases v with
  | ref a =>
    cases e : H a with
    | none => simp only [strpV, e]
    | some o =>
      cases o with
      | tup xs =>
        simp only [tupV, e] at h
        cases h
      | _ => simp only [strpV, e]
  | _ => rfl
theorem pairV_len {xs : List V} (h : xs.length ≠ 2) : pairV xs = none := by
  unfold pairV
  split
  · exact absurd rfl h
  · rfl
def spStripe : Sp := fun vs H Q _ => ∃ v, vs = [v] ∧ Th2 H v ∧ ∀ H', Same H H' → Q (.bl (strpV H v).isSome) H'
section
variable {P : Program} {w : World} {K : PySem.W.Frag} {mg : Str → Option Value} {base : Heap}
def N_is_stripe : List Str := ["thing", "shade", "many"]
theorem sc_is_stripe : FnScope N_is_stripe ["thing"] (defScope s_is_stripe) := ⟨rfl, rfl, rfl, by decide +kernel, rfl, by decide +kernel, by decide +kernel⟩
theorem ok_is_stripe (T : Txt K mg) : FnOk P w K mg base CX0 3 (ga K "is_stripe") (fdOf K "is_stripe") ["thing"] spStripe := by
  have G_is_shade := ok_is_shade (P := P) (w := w) (base := base) T
  have G_is_whole := ok_is_whole (P := P) (w := w) (base := base) T
  refine T.F_is_stripe.ok sc_is_stripe (fun vs H Q E h => ?_) (fun cdv A outer s H vs Q E hr h => ?_)
  · obtain ⟨v, rfl, _⟩ := h
    rfl
  · obtain ⟨v, rfl, ⟨hv, hv2⟩, hQ⟩ := h
    obtain ⟨t, ty, k1, k2, k3, k4⟩ := Th.ty (K := K) hv
    refine ⟨_, PSs.nox (pss_cons (ps_if (PW.pt (pw_or (pt_not (pt_val (pe_callB call_isi (by rfl) T.f_isinstance (by decide +kernel) (pa_cons (pv 0) (pa_cons (pe_bltn (v := .ty "tuple") (by rfl) T.f_tuple (by decide +kernel) rfl) pa_nil))))) (pw_or1 (pt_cmpR op_ne (pe_callB call_len (by rfl) T.f_len (by decide +kernel) (pa_cons (pv 0) pa_nil)) pe_int (nomark _)))))
    (pss_one (ps_ret pe_bl))
    pss_nil)
    (pss_cons (ps_asg (pv 0) (pg_tup rfl (pgs_cons (pg_name (i := 1) sc_is_stripe.nd rfl (Or.inl rfl)) (pgs_cons (pg_name (i := 2) sc_is_stripe.nd rfl (Or.inl rfl)) pgs_nil))))
    (pss_one (ps_ret (pe_and (pe_call G_is_shade (hr.mono (by decide)) (by rfl) T.g_is_shade T.F_is_shade.kp T.b_is_shade .nil pass0 (pa_cons (pv 1) pa_nil)) (pe_and (pe_call G_is_whole (hr.mono (by decide)) (by rfl) T.g_is_whole T.F_is_whole.kp T.b_is_whole .nil pass0 (pa_cons (pv 2) pa_nil)) (pe_one (pe_cmpR op_ge (pv 2) pe_int (nomark _))))))))), ?_⟩
    refine ⟨_, rfl, _, _, _, _, _, rfl, .ty _, ty, kit_ty k4, _, rfl, ite2 (fun c => iteT ?_) fun c => ?_⟩
    · have e : tupV H v = false := by
        cases q : tupV H v with
        | false => rfl
        | true =>
          rw [q] at c
          cases c
      rw [strpV_not e] at hQ
      exact hQ H (Same.refl H)
    · have e : tupV H v = true := by
        cases q : tupV H v with
        | true => rfl
        | false => exact absurd (by rw [q]; rfl) c
      obtain ⟨a, xs, rfl, ha⟩ := tupV_of e
      rw [strpV_tup ha] at hQ
      have hx := hv2 a xs rfl ha
      refine ⟨_, rfl, _, _, rfl, Or.inr ⟨_, SqT.of ha, rfl⟩, rfl, _, rfl, ?_⟩
      by_cases hl : xs.length = 2
      · rw [show (!decide (V.int (xs.length : Nat) = V.int 2)) = false by rw [hl]; rfl]
        refine iteF ?_
        obtain ⟨x, y, rfl⟩ : ∃ x y, xs = [x, y] := by
          match xs, hl with
          | [x, y], _ => exact ⟨x, y, rfl⟩
        have hx1 : Th H x := hx x (by simp)
        have hy1 : Th H y := hx y (by simp)
        refine ⟨_, rfl, a, _, rfl, SqT.of ha, rfl, _, _, rfl, _, _, rfl, rfl, ?_⟩
        refine ⟨_, rfl, x, rfl, hx1, fun H1 s1 => ⟨_, rfl, ite2 (fun d => ?_) fun d => ?_⟩⟩
        · refine ⟨_, rfl, y, rfl, hy1.same s1, _, rfl, ite2 (fun g => ?_) fun g => ?_⟩
          · cases y with
            | int n =>
              refine ⟨_, rfl, _, _, rfl, rfl, ?_⟩
              have q : (pairV [x, .int n]).isSome = decide (n ≥ 1) := by
                show (if shV x = true ∧ 1 ≤ n then some n else none).isSome = decide (n ≥ 1)
                by_cases hn : 1 ≤ n
                · rw [if_pos ⟨d, hn⟩, decide_eq_true hn]
                  rfl
                · rw [if_neg fun h => hn h.2, decide_eq_false hn]
                  rfl
              rw [q] at hQ
              exact hQ H1 s1
            | _ => cases g
          · have q : pairV [x, y] = none := by
              cases y with
              | int n => exact absurd rfl g
              | _ => rfl
            rw [q] at hQ
            exact hQ H1 s1
        · have q : pairV [x, y] = none := by
            cases y with
            | int n => exact if_neg fun h => d h.1
            | _ => rfl
          rw [q] at hQ
          exact hQ H1 s1
      · rw [show (!decide (V.int (xs.length : Nat) = V.int 2)) = true by
          have : V.int (xs.length : Nat) ≠ V.int 2 := fun h => hl (by
            have := V.int.inj h
            omega)
          rw [decide_eq_false this]
          rfl]
        refine iteT ?_
        rw [pairV_len hl] at hQ
        exact hQ H (Same.refl H)
end
/-! ## the first stripe that can't stand -/
def fw (H : Hp) : Nat → Int → List V → Option Nat
  | _, _, [] => none
  | i, n, v :: r => match strpV H v with
    | none => some i
    | some k => if n + k > 240 then some i else fw H (i + 1) (n + k) r
def natV : Option Nat → V
  | none => .non
  | some i => .int (i : Nat)
theorem strpV_same {H H' : Hp} {v : V} (s : Same H H') (h : Th H v) : strpV H' v = strpV H v := by
  cases h with
  | lst h => simp only [strpV, h, s _ _ h]
  | tup h => simp only [strpV, h, s _ _ h]
  | dic h => simp only [strpV, h, s _ _ h]
  | _ => rfl
theorem Th2.same {H H' : Hp} {v : V} (s : Same H H') (h : Th2 H v) : Th2 H' v := by
  obtain ⟨h1, h2⟩ := h
  refine ⟨h1.same s, fun a xs e ha x hx => ?_⟩
  subst e
  cases h1 with
  | lst h =>
    rw [s _ _ h] at ha
    cases ha
  | dic h =>
    rw [s _ _ h] at ha
    cases ha
  | tup h =>
    rw [s _ _ h] at ha
    cases ha
    exact (h2 _ _ rfl h x hx).same s
def spWrong : Sp := fun vs H Q _ => ∃ a xs, vs = [.ref a] ∧ H a = some (.tup xs) ∧ (∀ x ∈ xs, Th2 H x) ∧ ∀ H', Same H H' → Q (natV (fw H 0 0 xs)) H'
section
variable {P : Program} {w : World} {K : PySem.W.Frag} {mg : Str → Option Value} {base : Heap}
def N_first_wrong : List Str := ["stripes", "threads", "number", "stripe"]
theorem sc_first_wrong : FnScope N_first_wrong ["stripes"] (defScope s_first_wrong) := ⟨rfl, rfl, rfl, by decide +kernel, rfl, by decide +kernel, by decide +kernel⟩
theorem ok_first_wrong (T : Txt K mg) : FnOk P w K mg base CX0 4 (ga K "first_wrong") (fdOf K "first_wrong") ["stripes"] spWrong := by
  have G_is_stripe := ok_is_stripe (P := P) (w := w) (base := base) T
  refine T.F_first_wrong.ok sc_first_wrong (fun vs H Q E h => ?_) (fun cdv A outer s H vs Q E hr h => ?_)
  · obtain ⟨a, xs, rfl, _⟩ := h
    rfl
  · obtain ⟨a, xs, rfl, ha, hx, hQ⟩ := h
    refine ⟨_, PSs.nox (pss_cons (ps_set (i := 1) sc_first_wrong.nd rfl (Or.inl rfl) pe_int)
    (pss_cons (ps_for PassesOwn.never rfl (L2.Own.pi_enumT (by rfl) T.f_enumerate (pa_cons (pv 0) pa_nil)) (pg_tup rfl (pgs_cons (pg_name (i := 2) sc_first_wrong.nd rfl (Or.inl rfl)) (pgs_cons (pg_name (i := 3) sc_first_wrong.nd rfl (Or.inl rfl)) pgs_nil)))
    (pss_cons (ps_if (pt_not (pt_val (pe_call G_is_stripe (hr.mono (by decide)) (by rfl) T.g_is_stripe T.F_is_stripe.kp T.b_is_stripe .nil pass0 (pa_cons (pv 3) pa_nil))))
     (pss_one (ps_ret (pv 2)))
     pss_nil)
     (pss_cons (ps_aug (i := 1) sc_first_wrong.nd rfl (Or.inl rfl) (pe_ix ix_tup (pv 3) pe_int (fun _ _ => rfl)) ip_add)
     (pss_one (ps_if (pt_cmpR op_gt (pv 1) (pe_glob (v := .int 240) rfl T.m_MOST_THREADS.choose_spec ⟨_, rfl⟩) (nomark _))
     (pss_one (ps_ret (pv 2)))
     pss_nil)))))
    (pss_one (ps_ret pe_non)))), ?_⟩
    refine ⟨_, rfl, a, xs, rfl, SqT.of ha, ?_⟩
    refine for_it (walk_enumT (xs := xs)) (fun i σ H' => ∃ n u3 u4, σ = [some (.ref a), some (.int n), u3, u4] ∧ Same H H' ∧ fw H 0 0 xs = fw H i n (xs.drop i)) ⟨0, none, none, rfl, Same.refl H, rfl⟩ (fun i σ H' _ hP => ?_) (fun i x σ H0 H1 hi hP hy => ?_) fun σ H1 hP => ?_
    · obtain ⟨n, u3, u4, rfl, s1, _⟩ := hP
      exact SqT.of (s1 _ _ ha)
    · obtain ⟨n, u3, u4, rfl, s1, hf⟩ := hP
      obtain ⟨t, x1, y, rfl, ht, rfl, e1, e2⟩ := hy
      cases e1
      have e2 : xs[i]? = some y := e2
      have s2 : Same H (upd H0 t (.tup [.int (i : Nat), y])) := s1.trans (same_new ht)
      have hy2 : Th2 H y := hx y (List.mem_of_getElem? e2)
      have hd : xs.drop i = y :: xs.drop (i + 1) := by
        rw [List.drop_eq_getElem_cons hi]
        rw [List.getElem?_eq_getElem hi] at e2
        cases e2
        rfl
      rw [hd] at hf
      refine ⟨t, _, rfl, SqT.of upd_same, rfl, _, _, rfl, _, _, rfl, rfl, ?_⟩
      refine ⟨_, rfl, y, rfl, hy2.same s2, fun H3 s3 => ⟨_, rfl, ?_⟩⟩
      rw [strpV_same s2 hy2.1]
      have s4 := s2.trans s3
      cases hk : strpV H y with
      | none =>
        refine iteT ⟨_, rfl, ?_⟩
        have q : fw H 0 0 xs = some i := by
          rw [hf]
          simp only [fw, hk]
        rw [q] at hQ
        exact hQ H3 s4
      | some k =>
        refine iteF ?_
        obtain ⟨b, zs, rfl, hb⟩ : ∃ b zs, y = .ref b ∧ H b = some (.tup zs) := tupV_of (by
          cases q : tupV H y with
          | true => rfl
          | false =>
            rw [strpV_not q] at hk
            cases hk)
        rw [strpV_tup hb] at hk
        obtain ⟨z, hz⟩ : ∃ z, zs = [z, .int k] := by
          unfold pairV at hk
          split at hk
          · rename_i z n
            split at hk
            · cases hk
              exact ⟨z, rfl⟩
            · cases hk
          · cases hk
        subst hz
        refine ⟨_, rfl, _, rfl, b, _, _, _, rfl, rfl, SqT.of (s4 _ _ hb), rfl, ?_⟩
        refine ⟨_, _, rfl, rfl, ?_⟩
        refine ⟨_, rfl, _, _, rfl, rfl, _, rfl, ite2 (fun g => ?_) fun g => ?_⟩
        · have g1 : n + k > 240 := of_decide_eq_true g
          refine ⟨_, rfl, ?_⟩
          have q : fw H 0 0 xs = some i := by
            rw [hf]
            simp only [fw, strpV_tup hb, hk]
            rw [if_pos g1]
          rw [q] at hQ
          exact hQ H3 s4
        · have g1 : ¬ n + k > 240 := fun h => g (decide_eq_true h)
          refine ⟨_, _, _, rfl, s4, ?_⟩
          rw [hf]
          simp only [fw, strpV_tup hb, hk]
          rw [if_neg g1]
    · obtain ⟨n, u3, u4, rfl, s1, hf⟩ := hP
      rw [List.drop_length] at hf
      have q : fw H 0 0 xs = none := hf
      rw [q] at hQ
      exact hQ H1 s1
end
end S11

namespace S11
open PySem PySem.Spec PyProof.Rows L2 L2.Own He Sl
/-- stripes that stand -/
structure Fine (l : List (Str × Nat)) : Prop where
  ne : l ≠ []
  sh : ∀ s ∈ l, isSh s.1 = true
  pos : Pos l
  most : total l ≤ 240
theorem Prs.th2 {H : Hp} : ∀ {ps : List V} {l : List (Str × Nat)}, Prs H ps l → (∀ s ∈ l, s.1.cps.size ≤ sizeLine) → ∀ x ∈ ps, Th2 H x
  | [], [], _, _, x, hx => nomatch hx
  | [], _ :: _, h, _, _, _ => h.elim
  | _ :: _, [], h, _, _, _ => h.elim
  | v :: vs, s :: l, ⟨⟨a, e, h⟩, r⟩, hs, x, hx => by
    rcases List.mem_cons.mp hx with q | q
    · subst q e
      refine ⟨.tup h, fun b xs e1 e2 y hy => ?_⟩
      cases e1
      rw [h] at e2
      cases e2
      rcases List.mem_cons.mp hy with q | q
      · subst q
        exact .str _ (hs s List.mem_cons_self)
      · rw [List.mem_singleton.mp q]
        exact .int _
    · exact Prs.th2 r (fun t ht => hs t (List.mem_cons_of_mem _ ht)) x q
theorem fw_good {H : Hp} : ∀ {ps : List V} {l : List (Str × Nat)} {i : Nat} {n : Int}, Prs H ps l → (∀ s ∈ l, isSh s.1 = true) → Pos l → n + total l ≤ 240 → fw H i n ps = none
  | [], [], _, _, _, _, _, _ => rfl
  | [], _ :: _, _, _, h, _, _, _ => h.elim
  | _ :: _, [], _, _, h, _, _, _ => h.elim
  | v :: vs, s :: l, i, n, ⟨⟨a, e, h⟩, r⟩, hs, hp, ht => by
    subst e
    have e1 : strpV H (.ref a) = some (s.2 : Int) := by
      rw [strpV_tup h]
      show (if shV (.str s.1) = true ∧ (1 : Int) ≤ (s.2 : Nat) then some ((s.2 : Nat) : Int) else none) = _
      have h1 := hp s List.mem_cons_self
      rw [if_pos ⟨hs s List.mem_cons_self, by omega⟩]
    have e2 : total (s :: l) = s.2 + total l := rfl
    rw [e2] at ht
    simp only [fw, e1]
    rw [if_neg (by omega)]
    exact fw_good r (fun t h => hs t (List.mem_cons_of_mem _ h)) (fun t h => hp t (List.mem_cons_of_mem _ h)) (by omega)
def spThr : Sp := fun vs H Q _ => ∃ a ps l, vs = [.ref a] ∧ H a = some (.tup ps) ∧ Prs H ps l ∧ Fine l ∧
  ∀ H' t, Same H H' → H t = none → H' t = some (.tup ((expand l).map V.str)) → Q (.ref t) H'
section
variable {P : Program} {w : World} {K : PySem.W.Frag} {mg : Str → Option Value} {base : Heap}
def N_threads_of : List Str := ["stripes", "wrong", "shade", "many", "place"]
theorem sc_threads_of : FnScope N_threads_of ["stripes"] (defScope s_threads_of) := ⟨rfl, rfl, rfl, by decide +kernel, rfl, by decide +kernel, by decide +kernel⟩
theorem ok_threads_of (T : Txt K mg) : FnOk P w K mg base CX0 5 (ga K "threads_of") (fdOf K "threads_of") ["stripes"] spThr := by
  have G_first_wrong := ok_first_wrong (P := P) (w := w) (base := base) T
  refine T.F_threads_of.ok sc_threads_of (fun vs H Q E h => ?_) (fun cdv A outer s H vs Q E hr h => ?_)
  · obtain ⟨a, ps, l, rfl, _⟩ := h
    rfl
  · obtain ⟨a, ps, l, rfl, ha, hp, hf, hQ⟩ := h
    have hlen := hp.length
    have hl0 : ps.length ≠ 0 := fun e => hf.ne (List.eq_nil_of_length_eq_zero (by omega))
    refine ⟨_, PSs.nox (pss_cons (ps_if (PW.pt (pw_or (pt_not (pt_val (pe_callB call_isi (by rfl) T.f_isinstance (by decide +kernel) (pa_cons (pv 0) (pa_cons (pe_bltn (v := .ty "tuple") (by rfl) T.f_tuple (by decide +kernel) rfl) pa_nil))))) (pw_or1 (pt_cmpR op_eq (pe_callB call_len (by rfl) T.f_len (by decide +kernel) (pa_cons (pv 0) pa_nil)) pe_int (nomark _)))))
    (pss_one ps_never)
    pss_nil)
    (pss_cons (ps_set (i := 1) sc_threads_of.nd rfl (Or.inl rfl) (pe_call G_first_wrong (hr.mono (by decide)) (by rfl) T.g_first_wrong T.F_first_wrong.kp T.b_first_wrong .nil pass0 (pa_cons (pv 0) pa_nil)))
    (pss_cons (ps_if (pt_cmpR op_notN (pv 1) pe_non (nomark _))
    (pss_one ps_never)
    pss_nil)
    (pss_one (ps_ret (pe_callTy call_tuple_of (by rfl) T.f_tuple (by decide +kernel) (pa_cons (pe_lc2 (own := [("shade", 2), ("many", 3), ("place", 4)]) (g := gTup K 2 (gCons (gName 2) (gCons (gName 3) gNil))) (vs1 := [4]) rfl sc_threads_of.nd (pi_tup (pv 0)) (blkOk_by (own := [("shade", 2), ("many", 3), ("place", 4)]) (N := N_threads_of) (sc := defScope s_threads_of) (by decide +kernel)) (by decide) (fun _ _ _ _ _ => (pg_tup rfl (pgs_cons (pg_name (i := 2) sc_threads_of.nd rfl (Or.inl rfl)) (pgs_cons (pg_name (i := 3) sc_threads_of.nd rfl (Or.inl rfl)) pgs_nil)))) (fun _ _ _ _ _ => pts_nil) (fun _ _ _ _ _ => (pi_range1 (by rfl) T.f_range (pa_cons (pv 3) pa_nil))) (fun _ _ _ _ _ => (pg_name (i := 4) sc_threads_of.nd rfl (Or.inl rfl))) (fun _ _ _ _ _ => pts_nil) (fun _ _ _ _ _ => (pv 2))) pa_nil))))))), ?_⟩
    refine ⟨_, rfl, _, _, _, _, _, rfl, .ty _, .base (.tup ha), kit_ty (r := true) (by decide +kernel), _, rfl, iteF ?_⟩
    refine ⟨_, rfl, _, _, rfl, Or.inr ⟨_, SqT.of ha, rfl⟩, rfl, _, rfl, ?_⟩
    rw [show decide (V.int (ps.length : Nat) = V.int 0) = false from decide_eq_false fun h => hl0 (by
      have := V.int.inj h
      omega)]
    refine iteF ?_
    refine ⟨_, rfl, a, ps, rfl, ha, Prs.th2 hp fun s hs => isSh_len (hf.sh s hs), fun H1 s1 => ?_⟩
    rw [fw_good hp hf.sh hf.pos (by have := hf.most; omega)]
    refine ⟨_, rfl, rfl, _, rfl, iteF ?_⟩
    have ha1 := s1 _ _ ha
    have hp1 := hp.mono (Tups.of s1)
    refine ⟨_, rfl, a, rfl, ⟨_, SqT.of ha1⟩, fun D hD => lc2_it (walk_tup (xs := ps)) (fun i H' => LcAt H1 D H' ((expand (l.take i)).map V.str)) (LcAt.start hD) (fun i H2 _ hP => SqT.of (hP.same _ _ ha1)) (fun i x H0 H2 hi hP hy => ?_) fun H2 hP => ?_⟩
    · obtain ⟨rfl, hx1⟩ := hy
      obtain ⟨b, z, n, rfl, e2, e3⟩ := hp1.get hx1
      have e3' := hP.same _ _ e3
      have hn : n ≤ 240 := by
        have h1 := hf.most
        rw [← List.take_append_drop (i + 1) l, total_append, take_more e2, total_append, total_one] at h1
        omega
      refine ⟨b, _, rfl, SqT.of e3', rfl, _, _, rfl, _, _, rfl, rfl, rfl, ?_⟩
      refine ⟨_, rfl, (n : Int), rfl, by omega, by omega, ?_⟩
      refine lc_in (walk_range (lo := 0) (n := (n : Int).toNat)) (fun j H' => LcAt H1 D H' ((expand (l.take i) ++ List.replicate j z).map V.str)) ?_ (fun _ _ _ _ => True.intro) (fun j x H3 H4 hj hP3 hy => ?_) fun H3 hP3 => ?_
      · rw [List.replicate_zero, List.append_nil]
        exact hP
      · obtain ⟨rfl, rfl⟩ := hy
        refine ⟨rfl, _, rfl, _, hP3.it, ?_, ?_⟩
        · refine small ?_
          rw [List.length_map, List.length_append, List.length_replicate, expand_length]
          have h1 : total (l.take i) ≤ total l := by
            conv => rhs; rw [← List.take_append_drop i l, total_append]
            omega
          have := hf.most
          have hj' : j < n := by simpa using hj
          omega
        · have e5 : (expand (l.take i) ++ List.replicate (j + 1) z).map V.str = (expand (l.take i) ++ List.replicate j z).map V.str ++ [V.str z] := by
            rw [List.replicate_succ', ← List.append_assoc, List.map_append]
            rfl
          rw [e5]
          exact hP3.push (y := .str z)
      · rw [take_more e2, expand_append, expand_one]
        have e4 : (n : Int).toNat = n := by simp
        rw [e4] at hP3
        exact hP3
    · have q := hP.it
      rw [hlen, List.take_length] at q
      refine ⟨D, _, rfl, .inl ⟨SqL.of q, fun t ht => ?_⟩⟩
      refine hQ _ t ((s1.trans hP.same).trans (same_new ht)) ?_ upd_same
      exact Same.free (s1.trans hP.same) ht
end
end S11

namespace S11
open PySem PySem.Spec PyProof.Rows L2 L2.Own He Sl
theorem strs_of : ∀ {xs : List V}, xs.all shV = true → ∃ zs : List Str, xs = zs.map V.str ∧ ∀ z ∈ zs, isSh z = true
  | [], _ => ⟨[], rfl, fun _ h => nomatch h⟩
  | x :: xs, h => by
    rw [List.all_cons, Bool.and_eq_true] at h
    obtain ⟨zs, e, q⟩ := strs_of h.2
    cases x with
    | str z => exact ⟨z :: zs, by rw [e]; rfl, fun y hy => by
        rcases List.mem_cons.mp hy with r | r
        · rw [r]
          exact h.1
        · exact q y r⟩
    | _ => cases h.1
/-- threads that stand -/
structure FineT (zs : List Str) : Prop where
  ne : zs ≠ []
  sh : ∀ z ∈ zs, isSh z = true
  most : zs.length ≤ 240
theorem thrV_true {H : Hp} {v : V} (h : thrV H v = true) : ∃ a zs, v = .ref a ∧ H a = some (.tup (zs.map V.str)) ∧ FineT zs := by
  cases v with
  | ref a =>
    simp only [thrV] at h
    split at h
    · rename_i xs e
      unfold goodT at h
      rw [Bool.and_eq_true] at h
      obtain ⟨h1, h2⟩ := h
      have h1 := of_decide_eq_true h1
      obtain ⟨zs, rfl, q⟩ := strs_of h2
      rw [List.length_map] at h1
      exact ⟨a, zs, rfl, e, fun z => by rw [z] at h1; exact absurd h1.1 (by decide), q, h1.2⟩
    · cases h
  | _ => cases h
/-- stripes_of: the fewest stripes, or NoThreads -/
def spStr (K : PySem.W.Frag) : Sp := fun vs H Q E => ∃ v, vs = [v] ∧ Th2 H v ∧ (thrV H v = false → ∀ H', Same H H' → E (.ref (ga K "NoThreads")) none H') ∧
  (∀ a zs, v = .ref a → H a = some (.tup (zs.map V.str)) → FineT zs → ∀ H' t ps, Same H H' → H t = none → H' t = some (.tup ps) → Prs H' ps (groups zs) → Q (.ref t) H')
theorem last_at {α : Type} {xs : List α} {x : α} : atI (xs ++ [x]) (-1) = some x := atI_last xs x
theorem ixN_last {n : Nat} : ixN (n + 1) (-1) = some n := by
  unfold ixN
  rw [if_neg (by decide), if_pos (by omega)]
  congr 1
  omega
section
variable {P : Program} {w : World} {K : PySem.W.Frag} {mg : Str → Option Value} {base : Heap}
def N_stripes_of : List Str := ["threads", "stripes", "shade"]
theorem sc_stripes_of : FnScope N_stripes_of ["threads"] (defScope s_stripes_of) := ⟨rfl, rfl, rfl, by decide +kernel, rfl, by decide +kernel, by decide +kernel⟩
theorem ok_stripes_of (T : Txt K mg) : FnOk P w K mg base (L2.CX P w) 4 (ga K "stripes_of") (fdOf K "stripes_of") ["threads"] (spStr K) := by
  have G_are_threads := ok_are_threads (P := P) (w := w) (base := base) T
  refine T.F_stripes_of.ok sc_stripes_of (fun vs H Q E h => ?_) (fun cdv A outer s H vs Q E hr h => ?_)
  · obtain ⟨v, rfl, _⟩ := h
    rfl
  · obtain ⟨v, rfl, hv, hE, hQ⟩ := h
    refine ⟨_, (pss_cons (ps_if (pt_not (pt_val (pe_call G_are_threads (hr.mono (by decide)) (by rfl) T.g_are_threads T.F_are_threads.kp T.b_are_threads .nil pass0 (pa_cons (pv 0) pa_nil))))
    (pss_one (ps_raise rfl (takes_of rfl rfl rfl rfl) (pmk_own PySem.F.excBase_ValueError T.xc_NoThreads.1 T.c_NoThreads T.xc_NoThreads.2.1 (raises_own T.xc_NoThreads.2.2.1 T.xc_NoThreads.2.2.2) rfl)))
    pss_nil)
    (PSs.nox (pss_cons (ps_set (i := 1) sc_stripes_of.nd rfl (Or.inl rfl) (pe_lst pa_nil))
    (pss_cons (ps_for PassesOwn.never rfl (pi_tup (pv 0)) (pg_name (i := 2) sc_stripes_of.nd rfl (Or.inl rfl))
    (pss_one (ps_if (PW.pt (pw_and (pt_cmpR op_gt (pe_callB call_len (by rfl) T.f_len (by decide +kernel) (pa_cons (pv 1) pa_nil)) pe_int (nomark _)) (pw_and1 (pt_cmpR op_eq (pe_ix ix_tup (pe_ix ix_list (pv 1) (pe_un un_neg pe_int) (fun _ _ => rfl)) pe_int (fun _ _ => rfl)) (pv 2) (nomark _)))))
     (pss_one (ps_asg (pe_tup (pa_cons (pv 2) (pa_cons (pe_op op_add (pe_ix ix_tup (pe_ix ix_list (pv 1) (pe_un un_neg pe_int) (fun _ _ => rfl)) pe_int (fun _ _ => rfl)) pe_int) pa_nil))) (pg_sub (pv 1) (pe_un un_neg pe_int) set_list)))
     (pss_one (ps_expr (pe_bm PySem.F.plainAttrs_list PySem.F.slot_list_append PySem.F.type_list_append mt_append (pv 1) (pa_cons (pe_tup (pa_cons (pv 2) (pa_cons pe_int pa_nil))) pa_nil)))))))
    (pss_one (ps_ret (pe_callTy call_tuple_of (by rfl) T.f_tuple (by decide +kernel) (pa_cons (pv 1) pa_nil)))))))), ?_⟩
    refine ⟨_, rfl, v, rfl, hv, fun H1 s1 => ⟨_, rfl, ?_⟩⟩
    cases hT : thrV H v with
    | false =>
      refine iteT ?_
      exact hE hT H1 s1
    | true =>
      refine iteF ?_
      obtain ⟨a, zs, rfl, ha, hz⟩ := thrV_true hT
      have ha1 := s1 _ _ ha
      refine ⟨by decide, fun l hl => ?_⟩
      have ha2 : (upd H1 l (.lst [])) a = some (.tup (zs.map V.str)) := same_new hl _ _ ha1
      refine ⟨_, rfl, a, rfl, ⟨_, SqT.of ha2⟩, ?_⟩
      refine for_it (walk_tup (xs := zs.map V.str)) (fun i σ H' => ∃ u2 ps, σ = [some (.ref a), some (.ref l), u2] ∧ LcAt H1 l H' ps ∧ Prs H' ps (groups (zs.take i))) ⟨none, [], rfl, LcAt.start hl, True.intro⟩ (fun i σ H' _ hP => ?_) (fun i x σ H0 H2 hi hP hy => ?_) fun σ H2 hP => ?_
      · obtain ⟨u2, ps, rfl, hL, _⟩ := hP
        exact SqT.of (hL.same _ _ ha1)
      · obtain ⟨u2, ps, rfl, hL, hp⟩ := hP
        obtain ⟨rfl, hx⟩ := hy
        obtain ⟨z, hz1, rfl⟩ : ∃ z, zs[i]? = some z ∧ x = .str z := by
          rw [List.getElem?_map] at hx
          cases e : zs[i]? with
          | none =>
            rw [e] at hx
            cases hx
          | some z =>
            rw [e] at hx
            cases hx
            exact ⟨z, rfl, rfl⟩
        have hi' : i < zs.length := by simpa using hi
        have hgl : (groups (zs.take i)).length ≤ 240 := by
          have h1 := groups_length (zs.take i)
          rw [List.length_take] at h1
          have := hz.most
          omega
        have hpl := hp.length
        have hgr : groups (zs.take (i + 1)) = grow (groups (zs.take i)) z := by rw [take_more hz1, groups_snoc]
        -- one more stripe
        have more : ∀ t, H2 t = none → grow (groups (zs.take i)) z = groups (zs.take i) ++ [(z, 1)] → ∃ u2 qs, ([some (.ref a), some (.ref l), some (.str z)] : L2.St) = [some (.ref a), some (.ref l), u2] ∧ LcAt H1 l (upd (upd H2 t (.tup [.str z, .int 1])) l (.lst (ps ++ [.ref t]))) qs ∧ Prs (upd (upd H2 t (.tup [.str z, .int 1])) l (.lst (ps ++ [.ref t]))) qs (groups (zs.take (i + 1))) := fun t ht eg => by
          have hL2 := hL.keep (same_new (o := .tup [.str z, .int 1]) ht)
          refine ⟨_, _, rfl, hL2.to, ?_⟩
          rw [hgr, eg]
          exact Prs.mono (Tups.put hL2.it) (Prs.snoc (n := 1) upd_same (hp.mono (Tups.of (same_new ht))))
        refine ⟨_, rfl, _, _, rfl, Or.inl ⟨_, SqL.of hL.it, rfl⟩, _, _, rfl, rfl, _, rfl, ite2 (fun c => ?_) fun c => ?_⟩
        · have hne : groups (zs.take i) ≠ [] := fun e => by
            have h1 : (ps.length : Int) > 0 := of_decide_eq_true c
            rw [e] at hpl
            have h2 : ps.length = 0 := hpl
            omega
          obtain ⟨m, ⟨y, n⟩, em⟩ : ∃ m s, groups (zs.take i) = m ++ [s] := by
            rcases List.eq_nil_or_concat (groups (zs.take i)) with e | ⟨m, s, e⟩
            · exact absurd e hne
            · exact ⟨m, s, by rw [e]; simp⟩
          rw [em] at hp
          obtain ⟨qs, b, rfl, hq, hb⟩ := Prs.snoc_of hp
          refine ⟨_, rfl, _, rfl, l, _, _, _, rfl, rfl, SqL.of hL.it, last_at, b, _, _, _, rfl, rfl, SqT.of hb, rfl, _, rfl, rfl, _, rfl, ?_⟩
          have eg : grow (groups (zs.take i)) z = if y = z then m ++ [(z, n + 1)] else m ++ [(y, n)] ++ [(z, 1)] := by
            rw [em]
            unfold grow
            rw [List.getLast?_append]
            simp
          by_cases hyz : y = z
          · subst hyz
            rw [decide_eq_true rfl]
            refine iteT ?_
            rw [if_pos rfl] at eg
            refine ⟨_, rfl, _, rfl, _, rfl, l, _, _, _, rfl, rfl, SqL.of hL.it, last_at, b, _, _, _, rfl, rfl, SqT.of hb, rfl, _, _, rfl, rfl, (by show 2 ≤ sizeLine; decide), fun t ht => ?_⟩
            have hL2 := hL.keep (same_new (o := .tup [.str y, .int ((n : Int) + 1)]) ht)
            refine ⟨_, rfl, _, rfl, l, _, _, qs.length, rfl, rfl, hL2.it, ?_, ?_⟩
            · rw [List.length_append]
              exact ixN_last
            · refine ⟨_, _, rfl, hL2.to, ?_⟩
              rw [hgr, eg]
              refine Prs.mono (Tups.put hL2.it) ?_
              have e1 : (qs ++ [V.ref b]).set qs.length (.ref t) = qs ++ [.ref t] := by
                rw [List.set_append_right _ _ (Nat.le_refl _)]
                simp
              rw [e1]
              exact Prs.snoc (n := n + 1) (by rw [upd_same]; rfl) (hq.mono (Tups.of (same_new ht)))
          · rw [decide_eq_false (fun e => hyz (V.str.inj e))]
            refine iteF ?_
            rw [if_neg hyz, ← em] at eg
            refine ⟨_, rfl, Or.inl ⟨rfl, _, SqL.of hL.it⟩, _, rfl, (by show 2 ≤ sizeLine; decide), fun t ht => ?_⟩
            refine ⟨l, _, _, rfl, rfl, (hL.keep (same_new ht)).it, ?_, more t ht eg⟩
            exact small (by omega)
        · have hps : ps = [] := by
            cases ps with
            | nil => rfl
            | cons v r => exact absurd (decide_eq_true (by simp only [List.length_cons]; omega)) c
          have hg0 : groups (zs.take i) = [] := List.eq_nil_of_length_eq_zero (by rw [← hpl, hps]; rfl)
          refine ⟨_, rfl, Or.inl ⟨rfl, _, SqL.of hL.it⟩, _, rfl, (by show 2 ≤ sizeLine; decide), fun t ht => ?_⟩
          refine ⟨l, _, _, rfl, rfl, (hL.keep (same_new ht)).it, ?_, more t ht (by rw [hg0]; rfl)⟩
          exact small (by omega)
      · obtain ⟨u2, ps, rfl, hL, hp⟩ := hP
        refine ⟨_, rfl, l, ps, rfl, .inl ⟨SqL.of hL.it, fun t ht => ?_⟩⟩
        rw [List.length_map, List.take_length] at hp
        have s2 := s1.trans hL.same
        exact hQ a zs rfl ha hz _ t ps (s2.trans (same_new ht)) (Same.free s2 ht) upd_same (hp.mono (Tups.of (same_new ht)))
end
end S11

namespace S11
open PySem PySem.Spec PyProof.Rows L2 L2.Own He Sl
/-- a digit is drawn -/
def spTake : Sp := fun vs H Q _ => ∃ (p : Addr) (m : Int), vs = [.ref p, .int m] ∧ PoolAt H p ∧ 0 < m ∧ m < 1073741824 ∧ ∀ d H', 0 ≤ d → d < m → But p H H' → PoolAt H' p → Q (.int d) H'
/-- a list from which is drawn is made -/
def spPool (K : PySem.W.Frag) : Sp := fun vs H Q _ => ∃ (a : Addr) (ns : List Int) (k : Int), vs = [.ref a, .int k] ∧ SqL K H a (ns.map V.int) ∧ 0 ≤ k ∧ k < 1000 ∧ ∀ H' p, Same H H' → H p = none → PoolAt H' p → Q (.ref p) H'
theorem posI {j : Int} (h : 0 < j) : 0 < j := h
theorem cut_ints (ns : List Int) (lo hi : Option Int) : ∃ ms : List Int, cutV (ns.map V.int) lo hi = ms.map V.int := ⟨_, by
  unfold cutV
  rw [← List.map_drop, ← List.map_take]⟩
section
variable {P : Program} {w : World} {K : PySem.W.Frag} {mg : Str → Option Value} {base : Heap}
def N__law_take : List Str := ["_law_pool_here", "_law_many", "_law_digit"]
theorem sc__law_take : FnScope N__law_take ["_law_pool_here", "_law_many"] (defScope s__law_take) := ⟨rfl, rfl, rfl, by decide +kernel, rfl, by decide +kernel, by decide +kernel⟩
theorem ok__law_take (T : Txt K mg) : FnOk P w K mg base CX0 2 (ga K "_law_take") (fdOf K "_law_take") ["_law_pool_here", "_law_many"] spTake := by
  refine T.F__law_take.ok sc__law_take (fun vs H Q E h => ?_) (fun cdv A outer s H vs Q E hr h => ?_)
  · obtain ⟨p, m, rfl, _⟩ := h
    rfl
  · obtain ⟨p, m, rfl, ⟨n, hp⟩, h0, h1, hQ⟩ := h
    refine ⟨_, PSs.nox (pss_cons (ps_asg (pe_callB call_divmod (by rfl) T.f_divmod (by decide +kernel) (pa_cons (pe_ix ix_list (pv 0) pe_int (fun _ _ => rfl)) (pa_cons (pv 1) pa_nil))) (pg_tup rfl (pgs_cons (pg_sub (pv 0) pe_int set_list) (pgs_cons (pg_name (i := 2) sc__law_take.nd rfl (Or.inl rfl)) pgs_nil))))
    (pss_one (ps_ret (pv 2)))), ?_⟩
    refine ⟨_, rfl, p, _, _, _, rfl, rfl, SqL.of hp, rfl, _, rfl, n, m, rfl, ⟨h0, h1⟩, fun t ht => ?_⟩
    have hp1 : (upd H t (.tup [.int (n / m), .int (n % m)])) p = some (.lst [.int n]) := same_new ht _ _ hp
    refine ⟨t, _, rfl, SqT.of upd_same, rfl, _, _, rfl, _, rfl, p, _, _, 0, rfl, rfl, hp1, rfl, _, _, rfl, rfl, _, rfl, ?_⟩
    refine hQ _ _ (Int.emod_nonneg _ (by omega)) (Int.emod_lt_of_pos _ h0) ?_ ⟨_, upd_same⟩
    exact (But.of (same_new ht)).trans But.upd
def N__law_pool : List Str := ["_law_script", "_law_k", "_law_cell", "_law_more", "_law_found", "_law_turn"]
theorem sc__law_pool : FnScope N__law_pool ["_law_script", "_law_k"] (defScope s__law_pool) := ⟨rfl, rfl, rfl, by decide +kernel, rfl, by decide +kernel, by decide +kernel⟩
theorem ok__law_pool (T : Txt K mg) : FnOk P w K mg base CX0 2 (ga K "_law_pool") (fdOf K "_law_pool") ["_law_script", "_law_k"] (spPool K) := by
  refine T.F__law_pool.ok sc__law_pool (fun vs H Q E h => ?_) (fun cdv A outer s H vs Q E hr h => ?_)
  · obtain ⟨a, ns, k, rfl, _⟩ := h
    rfl
  · obtain ⟨a, ns, k, rfl, ha, k0, k1, hQ⟩ := h
    refine ⟨_, PSs.nox (pss_cons (ps_set (i := 2) sc__law_pool.nd rfl (Or.inl rfl) (pe_callB (cr_sum rfl) (by rfl) T.f_sum (by decide +kernel) (pa_cons (pe_slice sl_list (pv 0) (po_some (pv 1)) (po_some (pe_op op_add (pv 1) pe_int))) pa_nil)))
    (pss_cons (ps_if (PW.pt (pw_or (pt_cmpR op_lt (pv 2) pe_int (nomark _)) (pw_or1 (pt_cmpR op_ge (pv 2) (pe_op op_pow pe_int pe_int) (nomark _)))))
    (pss_one (ps_ret (pe_lst (pa_cons (pe_op op_mod (pe_callB call_abs (by rfl) T.f_abs (by decide +kernel) (pa_cons (pv 2) pa_nil)) (pe_op op_mulW (pe_op op_mulW (pe_op op_mulW (pe_op op_mulW (pe_op op_mulW (pe_op op_pow pe_int pe_int) (pe_op op_pow pe_int pe_int)) (pe_op op_pow pe_int pe_int)) (pe_op op_pow pe_int pe_int)) (pe_op op_pow pe_int pe_int)) (pe_op op_pow pe_int pe_int))) pa_nil))))
    pss_nil)
    (pss_cons (ps_set (i := 3) sc__law_pool.nd rfl (Or.inl rfl) (pe_op op_add (pe_op op_add (pe_op op_mul (pv 2) pe_int) (pe_op op_mul (pe_op op_mul pe_int (pv 1)) (pv 1))) pe_int))
    (pss_cons (ps_set (i := 4) sc__law_pool.nd rfl (Or.inl rfl) pe_int)
    (pss_cons (ps_for PassesOwn.never rfl (pi_range1 (by rfl) T.f_range (pa_cons pe_int pa_nil)) (pg_name (i := 5) sc__law_pool.nd rfl (Or.inl rfl))
    (pss_cons (ps_set (i := 3) sc__law_pool.nd rfl (Or.inl rfl) (pe_op op_mod (pe_op op_add (pe_op op_add (pe_op op_mul (pe_op op_mod (pv 3) pe_int) pe_int) (pe_op op_mul pe_int (pv 5))) pe_int) pe_int))
     (pss_one (ps_set (i := 4) sc__law_pool.nd rfl (Or.inl rfl) (pe_op op_add (pe_op op_mul (pv 4) (pe_op op_pow pe_int pe_int)) (pe_op op_mod (pe_op op_mul (pv 3) (pe_op op_add (pe_op op_mod (pv 3) pe_int) pe_int)) pe_int))))))
    (pss_one (ps_ret (pe_lst (pa_cons (pv 4) pa_nil))))))))), ?_⟩
    refine ⟨_, rfl, _, rfl, _, rfl, _, rfl, _, _, rfl, rfl, _, rfl, a, _, rfl, ha, fun q hq => ?_⟩
    obtain ⟨ms, hm⟩ := cut_ints ns (some k) (some (k + 1))
    refine ⟨q, ms, rfl, SqL.of (by rw [upd_same]; exact congrArg (fun z => some (HO.lst z)) hm), ?_⟩
    generalize ms.sum = cell
    have s1 : Same H (upd H q (.lst (cutV (ns.map V.int) (some k) (some (k + 1))))) := same_new hq
    generalize upd H q (.lst (cutV (ns.map V.int) (some k) (some (k + 1)))) = H1 at s1
    have big : tRet (tLst (tCons (tOp (rI (fun x j => 0 < j) fun i j => V.int (i % j)) (tCB (fun xs H Q => ∃ i, xs = [V.int i] ∧ Q (V.int (if i < 0 then -i else i)) H) (tCons (tVar 2) tNil))
        (tOp (rI CMulW fun i j => V.int (i * j)) (tOp (rI CMulW fun i j => V.int (i * j)) (tOp (rI CMulW fun i j => V.int (i * j)) (tOp (rI CMulW fun i j => V.int (i * j)) (tOp (rI CMulW fun i j => V.int (i * j))
          (tOp (rI CPow fun i j => V.int (i ^ j.toNat)) (tC (V.int 10)) (tC (V.int 64))) (tOp (rI CPow fun i j => V.int (i ^ j.toNat)) (tC (V.int 10)) (tC (V.int 64)))) (tOp (rI CPow fun i j => V.int (i ^ j.toNat)) (tC (V.int 10)) (tC (V.int 64))))
          (tOp (rI CPow fun i j => V.int (i ^ j.toNat)) (tC (V.int 10)) (tC (V.int 64)))) (tOp (rI CPow fun i j => V.int (i ^ j.toNat)) (tC (V.int 10)) (tC (V.int 64)))) (tOp (rI CPow fun i j => V.int (i ^ j.toNat)) (tC (V.int 10)) (tC (V.int 64))))) tNil))
        { nx := fun _ H' => Q .non H', rt := Q } [some (.ref a), some (.int k), some (.int cell), none, none, none] H1 := by
      have pw : CPow 10 64 := ⟨by decide, by decide, by decide⟩
      refine ⟨_, rfl, _, rfl, _, _, rfl, rfl, pw, _, _, rfl, rfl, pw, _, _, rfl, rfl, (by unfold CMulW; decide +kernel), ?_⟩
      refine ⟨_, _, rfl, rfl, pw, _, _, rfl, rfl, (by unfold CMulW; decide +kernel), _, _, rfl, rfl, pw, _, _, rfl, rfl, (by unfold CMulW; decide +kernel), _, _, rfl, rfl, pw, _, _, rfl, rfl, (by unfold CMulW; decide +kernel), _, _, rfl, rfl, pw, _, _, rfl, rfl, (by unfold CMulW; decide +kernel), ?_⟩
      refine ⟨_, _, rfl, rfl, (by show (0 : Int) < 10 ^ Int.toNat 64 * 10 ^ Int.toNat 64 * 10 ^ Int.toNat 64 * 10 ^ Int.toNat 64 * 10 ^ Int.toNat 64 * 10 ^ Int.toNat 64; decide +kernel), (by show 1 ≤ sizeLine; decide), fun l hl => ?_⟩
      exact hQ _ l (s1.trans (same_new hl)) (Same.free s1 hl) ⟨_, upd_same⟩
    refine ⟨_, rfl, _, _, rfl, rfl, _, rfl, ite2 (fun c => iteT big) fun c => ?_⟩
    refine ⟨_, rfl, _, _, rfl, rfl, ⟨by decide, by decide, by decide⟩, _, _, rfl, rfl, _, rfl, ite2 (fun d => big) fun d => ?_⟩
    have c0 : 0 ≤ cell := by
      have : ¬ cell < 0 := fun h => c (decide_eq_true h)
      omega
    have c1 : cell < 2 ^ 64 := by
      have : ¬ (10 : Int) ^ (18 : Int).toNat ≤ cell := fun h => d (decide_eq_true h)
      have e : (10 : Int) ^ (18 : Int).toNat = 1000000000000000000 := by decide
      rw [e] at this
      omega
    refine ⟨_, rfl, _, _, rfl, rfl, .inl ⟨by omega, c1⟩, _, rfl, _, _, rfl, rfl, .inl ⟨by decide, by decide⟩, _, rfl, _, _, rfl, rfl, .inr ⟨by omega, by omega⟩, _, _, rfl, rfl, _, _, rfl, rfl, ?_⟩
    refine ⟨27, rfl, by decide, by decide, ?_⟩
    refine for_it walk_range (fun i σ H' => ∃ m f u, σ = [some (.ref a), some (.int k), some (.int cell), some (.int m), some (.int f), u] ∧ H' = H1) ⟨_, 0, none, rfl, rfl⟩ (fun _ _ _ _ _ => True.intro) (fun i x σ H0 H2 hi hP hy => ?_) fun σ H2 hP => ?_
    · obtain ⟨m, f, u, rfl, rfl⟩ := hP
      obtain ⟨rfl, rfl⟩ := hy
      refine ⟨_, rfl, _, _, rfl, rfl, posI (by decide), _, _, rfl, rfl, .inr ⟨by decide, by decide⟩, _, rfl, _, _, rfl, rfl, .inl ⟨by decide, by decide⟩, _, _, rfl, rfl, _, _, rfl, rfl, _, _, rfl, rfl, posI (by decide), ?_⟩
      have hm : ∀ z : Int, 0 ≤ z % 999999999989 ∧ z % 999999999989 < 999999999989 := fun z => ⟨Int.emod_nonneg _ (by decide), Int.emod_lt_of_pos _ (by decide)⟩
      obtain ⟨g0, g1⟩ := hm (m % 999999999989 * 69621 + 40503 * (0 + (i : Nat)) + 271)
      refine ⟨_, rfl, _, _, rfl, rfl, ⟨by decide, by decide, by decide⟩, _, _, rfl, rfl, .inr ⟨by decide, by decide⟩, _, rfl, _, rfl, _, _, rfl, rfl, posI (by decide), _, _, rfl, rfl, _, _, rfl, rfl, .inl ⟨Int.lt_of_lt_of_le (by decide) g0, Int.lt_trans g1 (by decide)⟩, _, _, rfl, rfl, posI (by decide), _, _, rfl, rfl, ?_⟩
      exact ⟨_, _, _, rfl, rfl⟩
    · obtain ⟨m, f, u, rfl, rfl⟩ := hP
      refine ⟨_, rfl, (by show 1 ≤ sizeLine; decide), fun l hl => ?_⟩
      exact hQ _ l (s1.trans (same_new hl)) (Same.free s1 hl) ⟨_, upd_same⟩
end
end S11

namespace S11
open PySem PySem.Spec PyProof.Rows L2 L2.Own He Sl
/-- the threads of stripes, a new list -/
def spLThr : Sp := fun vs H Q _ => ∃ (t : Addr) (ps : List V) (l : List (Str × Nat)), vs = [.ref t] ∧ H t = some (.tup ps) ∧ Prs H ps l ∧ total l ≤ 100000 ∧
  ∀ H' r, Same H H' → H r = none → H' r = some (.lst ((expand l).map V.str)) → Q (.ref r) H'
theorem total_take (l : List (Str × Nat)) (i : Nat) : total (l.take i) ≤ total l := by
  conv => rhs; rw [← List.take_append_drop i l, total_append]
  omega
theorem rep_one (n : Nat) (v : V) : (List.replicate n [v]).flatten = List.replicate n v := by
  induction n with
  | zero => rfl
  | succ n ih => rw [List.replicate_succ, List.flatten_cons, ih]; rfl
section
variable {P : Program} {w : World} {K : PySem.W.Frag} {mg : Str → Option Value} {base : Heap}
def N__law_whole : List Str := ["_law_thing"]
theorem sc__law_whole : FnScope N__law_whole ["_law_thing"] (defScope s__law_whole) := ⟨rfl, rfl, rfl, by decide +kernel, rfl, by decide +kernel, by decide +kernel⟩
theorem ok__law_whole (T : Txt K mg) : FnOk P w K mg base CX0 2 (ga K "_law_whole") (fdOf K "_law_whole") ["_law_thing"] spWhole := by
  refine T.F__law_whole.ok sc__law_whole (fun vs H Q E h => ?_) (fun cdv A outer s H vs Q E hr h => ?_)
  · obtain ⟨v, rfl, _⟩ := h
    rfl
  · obtain ⟨v, rfl, hv, hQ⟩ := h
    obtain ⟨t, ty, k1, k2, k3, k4⟩ := Th.ty (K := K) hv
    refine ⟨_, PSs.nox (pss_one (ps_ret (pe_and (pe_callB call_isi (by rfl) T.f_isinstance (by decide +kernel) (pa_cons (pv 0) (pa_cons (pe_bltn (v := .ty "int") (by rfl) T.f_int (by decide +kernel) rfl) pa_nil))) (pe_one (pe_not (pe_callB call_isi (by rfl) T.f_isinstance (by decide +kernel) (pa_cons (pv 0) (pa_cons (pe_bltn (v := .ty "bool") (by rfl) T.f_bool (by decide +kernel) rfl) pa_nil)))))))), ?_⟩
    refine ⟨_, rfl, _, _, _, _, _, rfl, .ty _, ty, kit_ty k2, _, rfl, ite2 (fun c => ?_) fun c => ?_⟩
    · refine ⟨_, rfl, _, _, _, _, _, rfl, .ty _, ty, kit_ty k3, _, rfl, ?_⟩
      have e : (!blV v) = wholeV v := by
        cases v with
        | int i => rfl
        | bl b => rfl
        | _ => cases c
      show Q (.bl (!blV v)) H
      rw [e]
      exact hQ
    · have e : wholeV v = false := by
        cases v with
        | int i => exact absurd rfl c
        | _ => rfl
      rw [e] at hQ
      exact hQ
def N__law_threads : List Str := ["_law_stripes", "_law_found", "_law_shade", "_law_count"]
theorem sc__law_threads : FnScope N__law_threads ["_law_stripes"] (defScope s__law_threads) := ⟨rfl, rfl, rfl, by decide +kernel, rfl, by decide +kernel, by decide +kernel⟩
theorem ok__law_threads (T : Txt K mg) : FnOk P w K mg base CX0 2 (ga K "_law_threads") (fdOf K "_law_threads") ["_law_stripes"] spLThr := by
  refine T.F__law_threads.ok sc__law_threads (fun vs H Q E h => ?_) (fun cdv A outer s H vs Q E hr h => ?_)
  · obtain ⟨t, ps, l, rfl, _⟩ := h
    rfl
  · obtain ⟨t, ps, l, rfl, ht, hp, hl, hQ⟩ := h
    have hlen := hp.length
    refine ⟨_, PSs.nox (pss_cons (ps_set (i := 1) sc__law_threads.nd rfl (Or.inl rfl) (pe_lst pa_nil))
    (pss_cons (ps_for PassesOwn.never rfl (pi_tup (pv 0)) (pg_tup rfl (pgs_cons (pg_name (i := 2) sc__law_threads.nd rfl (Or.inl rfl)) (pgs_cons (pg_name (i := 3) sc__law_threads.nd rfl (Or.inl rfl)) pgs_nil)))
    (pss_one (ps_expr (pe_bm PySem.F.plainAttrs_list PySem.F.slot_list_extend PySem.F.type_list_extend mt_extend (pv 1) (pa_cons (pe_op op_rep (pe_lst (pa_cons (pv 2) pa_nil)) (pv 3)) pa_nil)))))
    (pss_one (ps_ret (pv 1))))), ?_⟩
    refine ⟨by decide, fun r hr0 => ?_⟩
    have ht1 : (upd H r (.lst [])) t = some (.tup ps) := same_new hr0 _ _ ht
    refine ⟨_, rfl, t, rfl, ⟨_, SqT.of ht1⟩, ?_⟩
    refine for_it (walk_tup (xs := ps)) (fun i σ H' => ∃ u2 u3, σ = [some (.ref t), some (.ref r), u2, u3] ∧ LcAt H r H' ((expand (l.take i)).map V.str)) ⟨none, none, rfl, LcAt.start hr0⟩ (fun i σ H' _ hP => ?_) (fun i x σ H0 H2 hi hP hy => ?_) fun σ H2 hP => ?_
    · obtain ⟨u2, u3, rfl, hL⟩ := hP
      exact SqT.of (hL.same _ _ ht)
    · obtain ⟨u2, u3, rfl, hL⟩ := hP
      obtain ⟨rfl, hx⟩ := hy
      obtain ⟨b, z, n, rfl, e2, e3⟩ := hp.get hx
      have e3' := hL.same _ _ e3
      have hn : total (l.take i) + n ≤ 100000 := by
        have h1 := total_take l (i + 1)
        rw [take_more e2, total_append, total_one] at h1
        omega
      refine ⟨b, _, rfl, SqT.of e3', rfl, _, _, rfl, _, _, rfl, rfl, ?_⟩
      refine ⟨_, rfl, Or.inl ⟨rfl, _, SqL.of hL.it⟩, _, rfl, (by show 1 ≤ sizeLine; decide), fun q hq => ?_⟩
      refine ⟨_, rfl, q, (n : Int), _, rfl, rfl, upd_same, by omega, by omega, ?_, fun q2 hq2 => ?_⟩
      · show 1 * (n : Int).toNat ≤ sizeLine
        exact smallE (by omega)
      · have hL2 := (hL.keep (same_new hq)).keep (same_new (o := .lst (List.replicate (n : Int).toNat [V.str z]).flatten) hq2)
        refine ⟨r, q2, _, _, rfl, rfl, hL2.it, upd_same, ?_, ?_⟩
        · rw [rep_one, List.length_map, expand_length, List.length_replicate]
          exact smallE (by omega)
        · refine ⟨_, _, rfl, ?_⟩
          have e5 : (expand (l.take (i + 1))).map V.str = (expand (l.take i)).map V.str ++ (List.replicate (n : Int).toNat [V.str z]).flatten := by
            rw [rep_one, take_more e2, expand_append, expand_one, List.map_append, List.map_replicate]
            simp
          rw [e5]
          exact hL2.to
    · obtain ⟨u2, u3, rfl, hL⟩ := hP
      rw [hlen, List.take_length] at hL
      exact ⟨_, rfl, hQ _ r hL.same hL.new hL.it⟩
end
/-! ## drawn shades -/
def abc : List Nat := (List.range 26).map (97 + ·)
theorem abc_eq : (Str.ofString "abcdefghijklmnopqrstuvwxyz").cps.toList = abc := by decide +kernel
theorem abc_size : (Str.ofString "abcdefghijklmnopqrstuvwxyz").cps.size = 26 := by decide +kernel
theorem abc_get {i : Nat} {c : Nat} (h : abc[i]? = some c) : 97 ≤ c ∧ c ≤ 122 := by
  have hm := List.mem_of_getElem? h
  obtain ⟨k, hk, e⟩ := List.mem_map.mp hm
  have := List.mem_range.mp hk
  omega
theorem abc_at {d : Int} (h0 : 0 ≤ d) (h1 : d < 26) : ∃ c, atI (Str.ofString "abcdefghijklmnopqrstuvwxyz").cps.toList d = some c ∧ 97 ≤ c ∧ c ≤ 122 := by
  rw [abc_eq]
  have hl : abc.length = 26 := by decide
  have hd : d.toNat < abc.length := by omega
  have e : abc[d.toNat]? = some abc[d.toNat] := List.getElem?_eq_getElem hd
  refine ⟨_, ?_, abc_get e⟩
  have := atI_nat e
  rw [Int.toNat_of_nonneg h0] at this
  exact this
/-- signs that are all small letters -/
def Low (z : Str) : Prop := ∀ c ∈ z.cps.toList, 97 ≤ c ∧ c ≤ 122
theorem isSh_of {z : Str} (h : Low z) (h1 : 1 ≤ z.cps.size) (h3 : z.cps.size ≤ 3) : isSh z = true := by
  unfold isSh
  rw [decide_eq_true (⟨h1, h3⟩ : _ ∧ _), Bool.true_and, List.all_eq_true]
  exact fun c hc => decide_eq_true (h c hc)
theorem low_of {z : Str} (h : isSh z = true) : Low z := fun c hc => by
  unfold isSh at h
  rw [Bool.and_eq_true] at h
  exact of_decide_eq_true (List.all_eq_true.mp h.2 c hc)
theorem low_append {y z : Str} (h1 : Low y) (h2 : Low z) : Low (y ++ z) := fun c hc => by
  have e : (y ++ z).cps.toList = y.cps.toList ++ z.cps.toList := by
    show (y.cps ++ z.cps).toList = _
    simp
  rw [e] at hc
  rcases List.mem_append.mp hc with q | q
  · exact h1 c q
  · exact h2 c q
theorem low_one {c : Nat} (h : 97 ≤ c ∧ c ≤ 122) : Low ⟨#[c]⟩ := fun d hd => by
  have : d = c := by simpa using hd
  rw [this]
  exact h
theorem size_append (y z : Str) : (y ++ z).cps.size = y.cps.size + z.cps.size := by
  show (y.cps ++ z.cps).size = _
  simp
theorem cut_low {z : Str} (h : Low z) (lo hi : Option Int) : Low (cutS z lo hi) := fun c hc => by
  unfold cutS at hc
  rw [List.toList_toArray] at hc
  exact h c (List.mem_of_mem_drop (List.mem_of_mem_take hc))
theorem cut_size (z : Str) (k : Nat) : (cutS z none (some (k : Int))).cps.size = min k z.cps.size := by
  unfold cutS
  rw [List.size_toArray, HT.sIx_none, HT.sIx_nat, List.length_take, List.drop_zero]
  show min (min k z.cps.size - 0) z.cps.toList.length = _
  rw [Array.length_toList]
  omega
theorem pigeon {α : Type} [DecidableEq α] : ∀ {l zs : List α}, l.Nodup → (∀ x ∈ l, x ∈ zs) → l.length ≤ zs.length
  | [], _, _, _ => Nat.zero_le _
  | a :: l, zs, hn, hs => by
    have hn' := List.nodup_cons.mp hn
    have ha : a ∈ zs := hs a List.mem_cons_self
    have ih := pigeon (l := l) (zs := zs.erase a) hn'.2 fun x hx => by
      have hne : x ≠ a := fun e => hn'.1 (e ▸ hx)
      exact (List.mem_erase_of_ne hne).mpr (hs x (List.mem_cons_of_mem _ hx))
    rw [List.length_erase_of_mem ha] at ih
    have : 0 < zs.length := List.length_pos_of_mem ha
    simp only [List.length_cons]
    omega
end S11

namespace S11
open PySem PySem.Spec PyProof.Rows L2 L2.Own He Sl
/-- so many unlike shades, a new list -/
def spShades : Sp := fun vs H Q _ => ∃ (p : Addr) (m : Int), vs = [.ref p, .int m] ∧ PoolAt H p ∧ 0 ≤ m ∧ m ≤ 20 ∧
  ∀ (H' : Hp) (l : Addr) (zs : List Str), But p H H' → PoolAt H' p → H l = none → H' l = some (.lst (zs.map V.str)) → zs.length = m.toNat → (∀ z ∈ zs, isSh z = true) → zs.Nodup → Q (.ref l) H'
def wordsL : List Str := ["run", "row", "fold", "left", "warp", "weft", "none", "put"]
theorem words_at {d : Int} (h0 : 0 ≤ d) (h1 : d < 8) : ∃ y, atI (wordsL.map V.str) d = some (.str y) ∧ isSh (cutS y none (some 3)) = true ∧ y.length ≤ sizeLine := by
  have key : ∀ y ∈ wordsL, isSh (cutS y none (some 3)) = true ∧ y.length ≤ 10 := by decide +kernel
  have hd : d.toNat < wordsL.length := by
    show d.toNat < 8
    omega
  have e : wordsL[d.toNat]? = some wordsL[d.toNat] := List.getElem?_eq_getElem hd
  have k := key _ (List.mem_of_getElem? e)
  refine ⟨_, ?_, k.1, smallE (by omega)⟩
  have e2 : (wordsL.map V.str)[d.toNat]? = some (.str wordsL[d.toNat]) := by
    rw [List.getElem?_map, e]
    rfl
  have := atI_nat e2
  rw [Int.toNat_of_nonneg h0] at this
  exact this
/-- shades from which one is taken -/
def some_ (z : Str) : List Str := z :: (abc.map (fun c => cutS z none (some 1) ++ ⟨#[c]⟩) ++ abc.map fun c => (⟨#[c]⟩ : Str) ++ ⟨#[c]⟩)
theorem some_sh {z y : Str} (h : isSh z = true) (hy : y ∈ some_ z) : isSh y = true := by
  have hc : ∀ c ∈ abc, 97 ≤ c ∧ c ≤ 122 := fun c hc => by
    obtain ⟨i, hi, e⟩ := List.mem_iff_getElem.mp hc
    exact abc_get (i := i) (by rw [List.getElem?_eq_getElem hi, e])
  rcases List.mem_cons.mp hy with q | q
  · rw [q]
    exact h
  · rcases List.mem_append.mp q with q | q
    · obtain ⟨c, h1, rfl⟩ := List.mem_map.mp q
      have hs := cut_size z 1
      have e1 : (⟨#[c]⟩ : Str).cps.size = 1 := rfl
      refine isSh_of (low_append (cut_low (low_of h) _ _) (low_one (hc c h1))) ?_ ?_
      · rw [size_append, e1]
        omega
      · rw [size_append, e1]
        show (cutS z none (some ((1 : Nat) : Int))).cps.size + 1 ≤ 3
        omega
    · obtain ⟨c, h1, rfl⟩ := List.mem_map.mp q
      exact isSh_of (low_append (low_one (hc c h1)) (low_one (hc c h1))) (by rw [size_append]; show 1 ≤ 1 + 1; decide) (by rw [size_append]; show 1 + 1 ≤ 3; decide)
theorem doubles_nodup : (abc.map fun c => (⟨#[c]⟩ : Str) ++ ⟨#[c]⟩).Nodup := by decide +kernel
/-- where there are few, one more is there -/
theorem some_new {z : Str} {zs : List Str} (h : zs.length ≤ 20) : (some_ z).filter (fun y => !zs.contains y) ≠ [] := fun e => by
  have hs : ∀ x ∈ (abc.map fun c => (⟨#[c]⟩ : Str) ++ ⟨#[c]⟩), x ∈ zs := fun x hx => by
    have hm : x ∈ some_ z := List.mem_cons_of_mem _ (List.mem_append_right _ hx)
    by_cases hz : x ∈ zs
    · exact hz
    · have : x ∈ (some_ z).filter (fun y => !zs.contains y) := List.mem_filter.mpr ⟨hm, by simp [hz]⟩
      rw [e] at this
      cases this
  have q := pigeon doubles_nodup hs
  have hl : (abc.map fun c => (⟨#[c]⟩ : Str) ++ ⟨#[c]⟩).length = 26 := by decide +kernel
  omega
theorem inV_strs (y : Str) (zs : List Str) : inV (.str y) (zs.map V.str) = zs.contains y := by
  unfold inV
  rw [List.any_map, List.contains_eq_any_beq]
  congr 1
  funext x
  show (x == y) = (y == x)
  rw [Bool.eq_iff_iff, beq_iff_eq, beq_iff_eq]
  exact eq_comm
theorem flat_strs (zs : List Str) : (zs.map V.str).all flatV = true := by
  rw [List.all_map, List.all_eq_true]
  exact fun _ _ => rfl
section
variable {P : Program} {w : World} {K : PySem.W.Frag} {mg : Str → Option Value} {base : Heap}
def N__law_some_shades : List Str := ["_law_pool_here", "_law_many", "_law_words", "_law_found", "_law_turn", "_law_size", "_law_word", "_law_place", "_law_letters", "_law_some", "_law_letter", "_law_one"]
theorem sc__law_some_shades : FnScope N__law_some_shades ["_law_pool_here", "_law_many"] (defScope s__law_some_shades) := ⟨rfl, rfl, rfl, by decide +kernel, rfl, by decide +kernel, by decide +kernel⟩
theorem ok__law_some_shades (T : Txt K mg) : FnOk P w K mg base CX0 3 (ga K "_law_some_shades") (fdOf K "_law_some_shades") ["_law_pool_here", "_law_many"] spShades := by
  have G__law_take := ok__law_take (P := P) (w := w) (base := base) T
  refine T.F__law_some_shades.ok sc__law_some_shades (fun vs H Q E h => ?_) (fun cdv A outer s H vs Q E hr h => ?_)
  · obtain ⟨p, m, rfl, _⟩ := h
    rfl
  · obtain ⟨p, m, rfl, hpool, m0, m1, hQ⟩ := h
    refine ⟨_, PSs.nox (pss_cons (ps_set (i := 2) sc__law_some_shades.nd rfl (Or.inl rfl) (pe_lst (pa_cons pe_str (pa_cons pe_str (pa_cons pe_str (pa_cons pe_str (pa_cons pe_str (pa_cons pe_str (pa_cons pe_str (pa_cons pe_str pa_nil))))))))))
    (pss_cons (ps_set (i := 3) sc__law_some_shades.nd rfl (Or.inr rfl) (pe_lst pa_nil))
    (pss_cons (ps_for PassesOwn.never rfl (pi_range1 (by rfl) T.f_range (pa_cons (pv 1) pa_nil)) (pg_name (i := 4) sc__law_some_shades.nd rfl (Or.inl rfl))
    (pss_cons (ps_asg (pe_tup (pa_cons (pe_op op_add pe_int (pe_call G__law_take (hr.mono (by decide)) (by rfl) T.g__law_take T.F__law_take.kp T.b__law_take .nil pass0 (pa_cons (pv 0) (pa_cons pe_int pa_nil)))) (pa_cons pe_str pa_nil))) (pg_tup rfl (pgs_cons (pg_name (i := 5) sc__law_some_shades.nd rfl (Or.inl rfl)) (pgs_cons (pg_name (i := 6) sc__law_some_shades.nd rfl (Or.inr rfl)) pgs_nil))))
     (pss_cons (ps_for PassesOwn.never rfl (pi_range1 (by rfl) T.f_range (pa_cons (pv 5) pa_nil)) (pg_name (i := 7) sc__law_some_shades.nd rfl (Or.inl rfl))
     (pss_one (ps_set (i := 6) sc__law_some_shades.nd rfl (Or.inr rfl) (pe_op op_add_str (pv 6) (pe_ix ix_str pe_str (pe_call G__law_take (hr.mono (by decide)) (by rfl) T.g__law_take T.F__law_take.kp T.b__law_take .nil pass0 (pa_cons (pv 0) (pa_cons pe_int pa_nil))) (fun _ _ => rfl))))))
     (C8.pss_cut (ps_if (pt_cmpR op_eq (pe_call G__law_take (hr.mono (by decide)) (by rfl) T.g__law_take T.F__law_take.kp T.b__law_take .nil pass0 (pa_cons (pv 0) (pa_cons pe_int pa_nil))) pe_int (nomark _))
     (pss_one (ps_set (i := 6) sc__law_some_shades.nd rfl (Or.inr rfl) (pe_slice sl_str (pe_ix ix_list (pv 2) (pe_call G__law_take (hr.mono (by decide)) (by rfl) T.g__law_take T.F__law_take.kp T.b__law_take .nil pass0 (pa_cons (pv 0) (pa_cons pe_int pa_nil))) (fun _ _ => rfl)) po_none (po_some pe_int))))
     pss_nil)
     (pss_cons (ps_set (i := 8) sc__law_some_shades.nd rfl (Or.inl rfl) pe_str)
     (pss_cons (ps_set (i := 9) sc__law_some_shades.nd rfl (Or.inl rfl) (pe_op op_cat (pe_op op_cat (pe_lst (pa_cons (pv 6) pa_nil)) (pe_lc (own := [("_law_letter", 10)]) rfl sc__law_some_shades.nd (pi_str (pv 8)) (blkOk_by (own := [("_law_letter", 10)]) (N := N__law_some_shades) (sc := defScope s__law_some_shades) (by decide +kernel)) (fun _ _ _ _ _ => (pg_name (i := 10) sc__law_some_shades.nd rfl (Or.inl rfl))) (fun _ _ _ _ _ => pts_nil) (fun _ _ _ _ _ => (pe_op op_add_str (pe_slice sl_str (pv 6) po_none (po_some pe_int)) (pv 10))))) (pe_lc (own := [("_law_letter", 10)]) rfl sc__law_some_shades.nd (pi_str (pv 8)) (blkOk_by (own := [("_law_letter", 10)]) (N := N__law_some_shades) (sc := defScope s__law_some_shades) (by decide +kernel)) (fun _ _ _ _ _ => (pg_name (i := 10) sc__law_some_shades.nd rfl (Or.inl rfl))) (fun _ _ _ _ _ => pts_nil) (fun _ _ _ _ _ => (pe_op op_add_str (pv 10) (pv 10))))))
     (pss_one (ps_expr (pe_bm PySem.F.plainAttrs_list PySem.F.slot_list_append PySem.F.type_list_append mt_append (pv 3) (pa_cons (pe_ix ix_list (pe_lc (own := [("_law_one", 11)]) rfl sc__law_some_shades.nd (pi_list (pv 9)) (blkOk_by (own := [("_law_one", 11)]) (N := N__law_some_shades) (sc := defScope s__law_some_shades) (by decide +kernel)) (fun _ _ _ _ _ => (pg_name (i := 11) sc__law_some_shades.nd rfl (Or.inl rfl))) (fun _ _ _ _ _ => (pts_one (pt_cmpR (op_notIn_seqK (K := K) rfl) (pv 11) (pv 3) (by rfl)))) (fun _ _ _ _ _ => (pv 11))) pe_int (fun _ _ => rfl)) pa_nil))))))))))
    (pss_one (ps_ret (pv 3)))))), ?_⟩
    refine ⟨(by show 8 ≤ sizeLine; decide), fun wd hwd => ⟨by decide, fun f hf => ?_⟩⟩
    have s1 : Same H (upd H wd (.lst (wordsL.map V.str))) := same_new hwd
    have hw1 : (upd H wd (.lst (wordsL.map V.str))) wd = some (.lst (wordsL.map V.str)) := upd_same
    have np : wd ≠ p := fun e => by
      obtain ⟨n, q⟩ := hpool
      rw [e, q] at hwd
      cases hwd
    have hpool1 := hpool.same s1
    replace hf : (upd H wd (.lst (wordsL.map V.str))) f = none := hf
    show tSeq _ _ _ _ (upd (upd H wd (.lst (wordsL.map V.str))) f (.lst []))
    generalize upd H wd (.lst (wordsL.map V.str)) = H1 at s1 hw1 hpool1 hf
    refine ⟨_, rfl, m, rfl, by omega, by omega, ?_⟩
    refine for_it walk_range (fun i σ H' => ∃ zs u4 u5 u6 u7 u8 u9, σ = [some (.ref p), some (.int m), some (.ref wd), some (.ref f), u4, u5, u6, u7, u8, u9, none, none] ∧ LcP p H1 f H' (zs.map V.str) ∧ zs.length = i ∧ (∀ z ∈ zs, isSh z = true) ∧ zs.Nodup)
      ⟨[], none, none, none, none, none, none, rfl, LcP.start hf hpool1, rfl, (fun _ h => nomatch h), List.nodup_nil⟩ (fun _ _ _ _ _ => True.intro) (fun i x σ H0 H2 hi hP hy => ?_) fun σ H2 hP => ?_
    · obtain ⟨zs, u4, u5, u6, u7, u8, u9, rfl, hL, hlen, hsh, hnd⟩ := hP
      obtain ⟨rfl, rfl⟩ := hy
      refine ⟨_, rfl, p, 3, rfl, hL.pool, by decide, by decide, fun d H3 d0 d1 b3 q3 => ⟨_, _, rfl, rfl, (by show 2 ≤ sizeLine; decide), fun t ht => ?_⟩⟩
      have hL3 := (hL.keep b3 q3).keep (But.of (same_new (o := .tup [.int (1 + d), .str (Str.ofString "")]) ht)) (q3.new ht)
      refine ⟨t, _, rfl, SqT.of upd_same, rfl, _, _, rfl, _, _, rfl, rfl, ?_⟩
      refine ⟨_, rfl, 1 + d, rfl, by omega, by omega, ?_⟩
      refine for_it walk_range (fun j σ H' => ∃ z v7, σ = [some (.ref p), some (.int m), some (.ref wd), some (.ref f), some (.int (0 + (i : Nat))), some (.int (1 + d)), some (.str z), v7, u8, u9, none, none] ∧ LcP p H1 f H' (zs.map V.str) ∧ Low z ∧ z.cps.size = j)
        ⟨Str.ofString "", u7, rfl, hL3, (fun c hc => nomatch hc), rfl⟩ (fun _ _ _ _ _ => True.intro) (fun j x σ H4 H5 hj hP hy => ?_) fun σ H4 hP => ?_
      · obtain ⟨z, v7, rfl, hL4, hz, hzs⟩ := hP
        obtain ⟨rfl, rfl⟩ := hy
        refine ⟨_, rfl, _, rfl, p, 26, rfl, hL4.pool, by decide, by decide, fun e H6 e0 e1 b6 q6 => ?_⟩
        obtain ⟨c, hc, hc2⟩ := abc_at e0 e1
        refine ⟨_, _, c, rfl, rfl, (by decide +kernel), hc, _, _, rfl, rfl, ?_, ?_⟩
        · show z.cps.size + 1 ≤ sizeLine
          refine smallE ?_
          omega
        · exact ⟨_, _, rfl, hL4.keep b6 q6, low_append hz (low_one hc2), by rw [size_append, hzs]; rfl⟩
      · obtain ⟨z, v7, rfl, hL4, hz, hzs⟩ := hP
        have hz1 : isSh z = true := isSh_of hz (by omega) (by omega)
        refine ⟨fun σ H' => ∃ z, σ = [some (.ref p), some (.int m), some (.ref wd), some (.ref f), some (.int (0 + (i : Nat))), some (.int (1 + d)), some (.str z), v7, u8, u9, none, none] ∧ LcP p H1 f H' (zs.map V.str) ∧ isSh z = true, ?_, fun σ H5 hP => ?_⟩
        · refine ⟨_, rfl, p, 8, rfl, hL4.pool, by decide, by decide, fun e H6 e0 e1 b6 q6 => ?_⟩
          have hL6 := hL4.keep b6 q6
          refine ⟨rfl, _, rfl, ite2 (fun c => ?_) fun c => ?_⟩
          · refine ⟨_, rfl, _, rfl, p, 8, rfl, hL6.pool, by decide, by decide, fun g H7 g0 g1 b7 q7 => ?_⟩
            have hL7 := hL6.keep b7 q7
            obtain ⟨y, hy1, hy2, hy3⟩ := words_at g0 g1
            refine ⟨wd, _, _, _, rfl, rfl, SqL.of (hL7.but _ _ np hw1), hy1, _, rfl, y, rfl, hy3, ?_⟩
            exact ⟨_, rfl, hL7, hy2⟩
          · exact ⟨z, rfl, hL6, hz1⟩
        · obtain ⟨z, rfl, hL5, hz1⟩ := hP
          have hzc := isSh_size hz1
          refine ⟨_, rfl, (by show 1 ≤ sizeLine; decide), fun a1 ha1 => ?_⟩
          have S1 : Same H5 (upd H5 a1 (.lst [.str z])) := same_new ha1
          have k1 : (upd H5 a1 (.lst [.str z])) a1 = some (.lst [.str z]) := upd_same
          generalize upd H5 a1 (.lst [.str z]) = G1 at S1 k1
          refine ⟨_, rfl, _, rfl, fun D hD => lc_it walk_str (fun i H' => LcAt G1 D H' ((abc.take i).map fun c => V.str (cutS z none (some 1) ++ ⟨#[c]⟩))) (LcAt.start hD) (fun _ _ _ _ => True.intro) (fun i x H6 H7 hi hP hy => ?_) fun H6 hP => ?_⟩
          · obtain ⟨rfl, c, hc, rfl⟩ := hy
            have hc' : abc[i]? = some c := by
              rw [← abc_eq]
              simpa using hc
            have hcs := cut_size z 1
            refine ⟨rfl, _, rfl, _, rfl, z, rfl, smallE (by show z.cps.size ≤ _; omega), _, rfl, _, _, rfl, rfl, ?_, _, hP.it, ?_, ?_⟩
            · show (cutS z none (some ((1 : Nat) : Int))).cps.size + 1 ≤ sizeLine
              exact smallE (by omega)
            · refine small ?_
              rw [List.length_map, List.length_take]
              have : abc.length = 26 := by decide
              omega
            · rw [take_more hc', List.map_append]
              exact hP.push
          · have hall : abc.take 26 = abc := by decide
            rw [abc_size, hall] at hP
            refine ⟨a1, D, _, _, rfl, rfl, hP.same _ _ k1, hP.it, ?_, fun c1 hc1 => ?_⟩
            · rw [List.length_map]
              exact smallE (by show 1 + abc.length ≤ _; decide)
            have S11 := S1.trans (hP.same.trans (same_new (o := .lst ([V.str z] ++ abc.map fun c => V.str (cutS z none (some 1) ++ ⟨#[c]⟩))) hc1))
            have k2 : (upd H6 c1 (.lst ([V.str z] ++ abc.map fun c => V.str (cutS z none (some 1) ++ ⟨#[c]⟩)))) c1 = some (.lst ([V.str z] ++ abc.map fun c => V.str (cutS z none (some 1) ++ ⟨#[c]⟩))) := upd_same
            generalize upd H6 c1 (.lst ([V.str z] ++ abc.map fun c => V.str (cutS z none (some 1) ++ ⟨#[c]⟩))) = G2 at S11 k2
            refine ⟨_, rfl, _, rfl, fun D hD => lc_it walk_str (fun i H' => LcAt G2 D H' ((abc.take i).map fun c => V.str ((⟨#[c]⟩ : Str) ++ ⟨#[c]⟩))) (LcAt.start hD) (fun _ _ _ _ => True.intro) (fun i x H6 H7 hi hP hy => ?_) fun H6 hP => ?_⟩
            · obtain ⟨rfl, c, hc, rfl⟩ := hy
              have hc' : abc[i]? = some c := by
                rw [← abc_eq]
                simpa using hc
              refine ⟨rfl, _, rfl, _, rfl, _, _, rfl, rfl, (by show 1 + 1 ≤ sizeLine; decide), _, hP.it, ?_, ?_⟩
              · refine small ?_
                rw [List.length_map, List.length_take]
                have : abc.length = 26 := by decide
                omega
              · rw [take_more hc', List.map_append]
                exact hP.push
            · rw [abc_size, hall] at hP
              refine ⟨c1, D, _, _, rfl, rfl, hP.same _ _ k2, hP.it, ?_, fun c2 hc2 => ?_⟩
              · rw [List.length_append, List.length_map, List.length_map]
                exact smallE (by show 1 + abc.length + abc.length ≤ _; decide)
              have e3 : ([V.str z] ++ abc.map fun c => V.str (cutS z none (some 1) ++ ⟨#[c]⟩)) ++ (abc.map fun c => V.str ((⟨#[c]⟩ : Str) ++ ⟨#[c]⟩)) = (some_ z).map V.str := by
                unfold some_
                rw [List.map_cons, List.map_append, List.map_map, List.map_map]
                rfl
              rw [e3]
              have S3 := S11.trans (hP.same.trans (same_new (o := .lst ((some_ z).map V.str)) hc2))
              have k3 : (upd H6 c2 (.lst ((some_ z).map V.str))) c2 = some (.lst ((some_ z).map V.str)) := upd_same
              generalize upd H6 c2 (.lst ((some_ z).map V.str)) = G3 at S3 k3
              have hL6 := hL5.keep (But.of S3) (hL5.pool.same S3)
              refine ⟨_, rfl, Or.inl ⟨rfl, _, SqL.of hL6.it⟩, _, rfl, c2, rfl, ⟨_, SqL.of k3⟩, fun D hD => lc_it (walk_list (xs := (some_ z).map V.str)) (fun i H' => LcAt G3 D H' ((((some_ z).take i).filter fun y => !zs.contains y).map V.str)) (LcAt.start hD) (fun i H6 _ hP => SqL.of (hP.same _ _ k3)) (fun i x H6 H7 hi hP hy => ?_) fun H6 hP => ?_⟩
              · obtain ⟨rfl, hx⟩ := hy
                obtain ⟨y, hy1, rfl⟩ : ∃ y, (some_ z)[i]? = some y ∧ x = .str y := by
                  rw [List.getElem?_map] at hx
                  cases e : (some_ z)[i]? with
                  | none =>
                    rw [e] at hx
                    cases hx
                  | some y =>
                    rw [e] at hx
                    cases hx
                    exact ⟨y, rfl, rfl⟩
                refine ⟨rfl, _, rfl, _, rfl, f, _, rfl, .inl (SqL.of (hP.same _ _ hL6.it)), rfl, flat_strs zs, _, rfl, ?_⟩
                rw [inV_strs, take_more hy1, List.filter_append, List.map_append]
                show if (!zs.contains y) = true then _ else _
                refine ite2 (fun c => ⟨_, rfl, _, hP.it, ?_, ?_⟩) fun c => ?_
                · refine small ?_
                  rw [List.length_map]
                  have h1 := List.length_filter_le (fun y => !zs.contains y) ((some_ z).take i)
                  have h2 := List.length_take_le i (some_ z)
                  have h3 : ((some_ z).map V.str).length = 53 := by
                    rw [List.length_map]
                    unfold some_
                    rw [List.length_cons, List.length_append, List.length_map, List.length_map]
                    rfl
                  rw [h3] at hi
                  omega
                · rw [List.filter_cons_of_pos (p := fun y => !zs.contains y) c, List.filter_nil]
                  exact hP.push
                · rw [List.filter_cons_of_neg (p := fun y => !zs.contains y) c, List.filter_nil, List.map_nil, List.append_nil]
                  exact hP
              · rw [List.length_map, List.take_length] at hP
                obtain ⟨y, r, er⟩ := List.exists_cons_of_ne_nil (some_new (z := z) (zs := zs) (by omega))
                rw [er] at hP
                have hy : y ∈ (some_ z).filter fun y => !zs.contains y := by
                  rw [er]
                  exact List.mem_cons_self
                obtain ⟨hy1, hy2⟩ := List.mem_filter.mp hy
                have hL7 := hL6.keep (But.of hP.same) (hL6.pool.same hP.same)
                refine ⟨D, _, _, _, rfl, rfl, SqL.of hP.it, (show atI (V.str y :: r.map V.str) ((0 : Nat) : Int) = some (V.str y) from atI_nat rfl), f, _, _, rfl, rfl, hL7.it, ?_, ?_⟩
                · refine small ?_
                  rw [List.length_map]
                  omega
                · refine ⟨zs ++ [y], _, _, _, _, _, _, rfl, ?_, by simp [hlen], fun u hu => ?_, ?_⟩
                  · rw [List.map_append]
                    exact hL7.push
                  · rcases List.mem_append.mp hu with q | q
                    · exact hsh u q
                    · rw [List.mem_singleton.mp q]
                      exact some_sh hz1 hy1
                  · refine List.nodup_append.mpr ⟨hnd, by simp, fun a ha b hb e => ?_⟩
                    rw [List.mem_singleton.mp hb] at e
                    subst e
                    simp [ha] at hy2
    · obtain ⟨zs, u4, u5, u6, u7, u8, u9, rfl, hL, hlen, hsh, hnd⟩ := hP
      refine ⟨_, rfl, ?_⟩
      have : zs.length = m.toNat := by omega
      exact hQ _ f zs ((But.of s1).trans hL.but) hL.pool (Same.free s1 hf) hL.it this hsh hnd
end
end S11

namespace S11
open PySem PySem.Spec PyProof.Rows L2 L2.Own He Sl
/-! ## data of texts -/
theorem dp_strs (K : PySem.W.Frag) (H : Hp) : ∀ zs : List Str, DpAll K H (zs.map V.str) (zs.map PyData.str)
  | [] => .nil
  | z :: zs => .cons (.str z) (dp_strs K H zs)
theorem strOk_of {z : Str} (h : isSh z = true) : PyData.strOk z = true := by
  have hl := low_of h
  unfold PyData.strOk
  rw [← Array.all_toList, List.all_eq_true]
  intro c hc
  have := hl c hc
  exact decide_eq_true (by omega)
theorem lay_strs : ∀ {zs : List Str}, (∀ z ∈ zs, isSh z = true) → PyData.canLayAll0 (zs.map PyData.str) = true
  | [], _ => rfl
  | z :: zs, h => by
    have ih := lay_strs fun y hy => h y (List.mem_cons_of_mem _ hy)
    have h1 := strOk_of (h z List.mem_cons_self)
    simp [PyData.canLayAll0, PyData.canLay0, ih, h1]
theorem deep_strs : ∀ zs : List Str, PyData.depthAll (zs.map PyData.str) ≤ 1
  | [] => by simp [PyData.depthAll]
  | z :: zs => by
    have ih := deep_strs zs
    simp only [List.map_cons, PyData.depthAll, PyData.depth]
    omega
theorem shaped_strs {zs : List Str} (h : ∀ z ∈ zs, isSh z = true) : SeqAt.shaped (.list (zs.map PyData.str)) = true := by
  unfold SeqAt.shaped
  rw [Bool.and_eq_true]
  refine ⟨lay_strs h, decide_eq_true ?_⟩
  have := deep_strs zs
  simp only [PyData.depth]
  omega
theorem shaped_strsT {zs : List Str} (h : ∀ z ∈ zs, isSh z = true) : SeqAt.shaped (.tuple (zs.map PyData.str)) = true := by
  unfold SeqAt.shaped
  rw [Bool.and_eq_true]
  refine ⟨lay_strs h, decide_eq_true ?_⟩
  have := deep_strs zs
  simp only [PyData.depth]
  omega
theorem eqv_strs {zs : List Str} (h : ∀ z ∈ zs, isSh z = true) : PyData.eqv (.list (zs.map PyData.str)) (.list (zs.map PyData.str)) = true := SeqAt.eqv_refl _ (lay_strs h)
theorem eqv_strsT {zs : List Str} (h : ∀ z ∈ zs, isSh z = true) : PyData.eqv (.tuple (zs.map PyData.str)) (.tuple (zs.map PyData.str)) = true := SeqAt.eqv_refl _ (lay_strs h)
/-! ## drawn stripes -/
def spDrawn : Sp := fun vs H Q _ => ∃ (p l : Addr) (most wide : Int) (zs : List Str), vs = [.ref p, .ref l, .int most, .int wide] ∧ PoolAt H p ∧ l ≠ p ∧ H l = some (.lst (zs.map V.str)) ∧ zs ≠ [] ∧ zs.length ≤ 1000 ∧ (∀ z ∈ zs, isSh z = true) ∧
  1 ≤ most ∧ most ≤ 100 ∧ 1 ≤ wide ∧ wide ≤ 1000 ∧
  ∀ (H' : Hp) (t : Addr) (ps : List V) (m : List (Str × Nat)), But p H H' → PoolAt H' p → H t = none → H' t = some (.tup ps) → Prs H' ps m → m ≠ [] → m.length ≤ most.toNat → (∀ s ∈ m, isSh s.1 = true ∧ 1 ≤ s.2 ∧ s.2 ≤ wide.toNat) → Q (.ref t) H'
theorem strs_at {zs : List Str} {d : Int} (h0 : 0 ≤ d) (h1 : d < zs.length) : ∃ z, atI (zs.map V.str) d = some (.str z) ∧ z ∈ zs := by
  have hd : d.toNat < zs.length := by omega
  have e : zs[d.toNat]? = some zs[d.toNat] := List.getElem?_eq_getElem hd
  refine ⟨_, ?_, List.mem_of_getElem? e⟩
  have e2 : (zs.map V.str)[d.toNat]? = some (.str zs[d.toNat]) := by
    rw [List.getElem?_map, e]
    rfl
  have := atI_nat e2
  rw [Int.toNat_of_nonneg h0] at this
  exact this
section
variable {P : Program} {w : World} {K : PySem.W.Frag} {mg : Str → Option Value} {base : Heap}
def N__law_drawn_stripes : List Str := ["_law_pool_here", "_law_shades", "_law_most", "_law_wide", "_law_found", "_law_turn"]
theorem sc__law_drawn_stripes : FnScope N__law_drawn_stripes ["_law_pool_here", "_law_shades", "_law_most", "_law_wide"] (defScope s__law_drawn_stripes) := ⟨rfl, rfl, rfl, by decide +kernel, rfl, by decide +kernel, by decide +kernel⟩
theorem ok__law_drawn_stripes (T : Txt K mg) : FnOk P w K mg base CX0 3 (ga K "_law_drawn_stripes") (fdOf K "_law_drawn_stripes") ["_law_pool_here", "_law_shades", "_law_most", "_law_wide"] spDrawn := by
  have G__law_take := ok__law_take (P := P) (w := w) (base := base) T
  refine T.F__law_drawn_stripes.ok sc__law_drawn_stripes (fun vs H Q E h => ?_) (fun cdv A outer s H vs Q E hr h => ?_)
  · obtain ⟨p, l, most, wide, zs, rfl, _⟩ := h
    rfl
  · obtain ⟨p, l, most, wide, zs, rfl, hpool, hlp, hl, hz0, hz1, hsh, m0, m1, w0, w1, hQ⟩ := h
    have hzl : 0 < zs.length := List.length_pos_iff.mpr hz0
    refine ⟨_, PSs.nox (pss_cons (ps_set (i := 4) sc__law_drawn_stripes.nd rfl (Or.inl rfl) (pe_lst pa_nil))
    (pss_cons (ps_for PassesOwn.never rfl (pi_range1 (by rfl) T.f_range (pa_cons (pe_op op_add pe_int (pe_call G__law_take (hr.mono (by decide)) (by rfl) T.g__law_take T.F__law_take.kp T.b__law_take .nil pass0 (pa_cons (pv 0) (pa_cons (pv 2) pa_nil)))) pa_nil)) (pg_name (i := 5) sc__law_drawn_stripes.nd rfl (Or.inl rfl))
    (pss_one (ps_expr (pe_bm PySem.F.plainAttrs_list PySem.F.slot_list_append PySem.F.type_list_append mt_append (pv 4) (pa_cons (pe_tup (pa_cons (pe_ix ix_list (pv 1) (pe_call G__law_take (hr.mono (by decide)) (by rfl) T.g__law_take T.F__law_take.kp T.b__law_take .nil pass0 (pa_cons (pv 0) (pa_cons (pe_callB call_len (by rfl) T.f_len (by decide +kernel) (pa_cons (pv 1) pa_nil)) pa_nil))) (fun _ _ => rfl)) (pa_cons (pe_op op_add pe_int (pe_call G__law_take (hr.mono (by decide)) (by rfl) T.g__law_take T.F__law_take.kp T.b__law_take .nil pass0 (pa_cons (pv 0) (pa_cons (pv 3) pa_nil)))) pa_nil))) pa_nil)))))
    (pss_one (ps_ret (pe_callTy call_tuple_of (by rfl) T.f_tuple (by decide +kernel) (pa_cons (pv 4) pa_nil)))))), ?_⟩
    refine ⟨by decide, fun f hf => ?_⟩
    have hL0 := LcP.start hf hpool
    refine ⟨_, rfl, _, rfl, p, most, rfl, hL0.pool, by omega, by omega, fun d H2 d0 d1 b2 q2 => ⟨_, _, rfl, rfl, 1 + d, rfl, by omega, by omega, ?_⟩⟩
    refine for_it walk_range (fun i σ H' => ∃ u5 ps m, σ = [some (.ref p), some (.ref l), some (.int most), some (.int wide), some (.ref f), u5] ∧ LcP p H f H' ps ∧ Prs H' ps m ∧ m.length = i ∧ ∀ s ∈ m, isSh s.1 = true ∧ 1 ≤ s.2 ∧ s.2 ≤ wide.toNat)
      ⟨none, [], [], rfl, hL0.keep b2 q2, True.intro, rfl, fun _ h => nomatch h⟩ (fun _ _ _ _ _ => True.intro) (fun i x σ H3 H4 hi hP hy => ?_) fun σ H3 hP => ?_
    · obtain ⟨u5, ps, m, rfl, hL, hp, hml, hm⟩ := hP
      obtain ⟨rfl, rfl⟩ := hy
      have hl4 := hL.but _ _ hlp hl
      refine ⟨_, rfl, Or.inl ⟨rfl, _, SqL.of hL.it⟩, _, rfl, _, rfl, _, rfl, _, _, rfl, Or.inl ⟨_, SqL.of hl4, rfl⟩, p, _, rfl, hL.pool, ?_, ?_, fun e H5 e0 e1 b5 q5 => ?_⟩
      · rw [List.length_map]
        omega
      · rw [List.length_map]
        omega
      · rw [List.length_map] at e1
        have hL5 := hL.keep b5 q5
        have hp5 := hp.mono (Tups.but hL.pool.choose_spec b5)
        obtain ⟨z, hz, hzm⟩ := strs_at e0 e1
        refine ⟨l, _, _, _, rfl, rfl, SqL.of (b5 _ _ hlp hl4), hz, _, rfl, _, rfl, p, wide, rfl, q5, by omega, by omega, fun g H6 g0 g1 b6 q6 => ?_⟩
        have hL6 := hL5.keep b6 q6
        have hp6 := hp5.mono (Tups.but q5.choose_spec b6)
        refine ⟨_, _, rfl, rfl, (by show 2 ≤ sizeLine; decide), fun t ht => ?_⟩
        have hL7 := hL6.keep (But.of (same_new (o := .tup [.str z, .int (1 + g)]) ht)) (q6.new ht)
        have hp7 := hp6.mono (Tups.of (same_new (o := .tup [.str z, .int (1 + g)]) ht))
        have hpl := hp.length
        refine ⟨f, _, _, rfl, rfl, hL7.it, small (by omega), ?_⟩
        refine ⟨_, _, m ++ [(z, (1 + g).toNat)], rfl, hL7.push, ?_, by simp [hml], fun s hs => ?_⟩
        · refine Prs.mono (Tups.put hL7.it) (Prs.snoc ?_ hp7)
          rw [upd_same, Int.toNat_of_nonneg (by omega)]
        · rcases List.mem_append.mp hs with q | q
          · exact hm s q
          · rw [List.mem_singleton.mp q]
            exact ⟨hsh z hzm, by show 1 ≤ (1 + g).toNat; omega, by show (1 + g).toNat ≤ _; omega⟩
    · obtain ⟨u5, ps, m, rfl, hL, hp, hml, hm⟩ := hP
      refine ⟨_, rfl, f, ps, rfl, .inl ⟨SqL.of hL.it, fun t ht => ?_⟩⟩
      have hb := hL.but.trans (But.of (same_new (o := .tup ps) ht))
      refine hQ _ t ps m hb (hL.pool.new ht) ?_ upd_same (hp.mono (Tups.of (same_new ht))) ?_ ?_ hm
      · cases q : H t with
        | none => rfl
        | some o =>
          by_cases e : t = p
          · obtain ⟨n, hn⟩ := hL.pool
            rw [e, hn] at ht
            cases ht
          · rw [hL.but t o e q] at ht
            cases ht
      · intro e
        rw [e] at hml
        have : (0 : Nat) = (1 + d).toNat := hml
        omega
      · omega
end
end S11

namespace S11
open PySem PySem.Spec PyProof.Rows L2 L2.Own He Sl
/-- these are the fewest stripes of the threads -/
def spFewest : Sp := fun vs H Q _ => ∃ (t f : Addr) (ps : List V) (m : List (Str × Nat)), vs = [.ref t, .ref f] ∧ H t = some (.tup ((expand m).map V.str)) ∧ H f = some (.tup ps) ∧ Prs H ps m ∧ Apart m ∧ Pos m ∧ (∀ s ∈ m, isSh s.1 = true) ∧ total m ≤ 10000 ∧
  ∀ H', Same H H' → Q (.bl true) H'
theorem expand_sh {m : List (Str × Nat)} (h : ∀ s ∈ m, isSh s.1 = true) : ∀ z ∈ expand m, isSh z = true := fun z hz => by
  obtain ⟨n, hn⟩ := expand_mem hz
  exact h _ hn
section
variable {P : Program} {w : World} {K : PySem.W.Frag} {mg : Str → Option Value} {base : Heap}
def N__law_are_fewest : List Str := ["_law_words", "_law_found", "_law_part", "_law_shade", "_law_count", "_law_k"]
theorem sc__law_are_fewest : FnScope N__law_are_fewest ["_law_words", "_law_found"] (defScope s__law_are_fewest) := ⟨rfl, rfl, rfl, by decide +kernel, rfl, by decide +kernel, by decide +kernel⟩
theorem ok__law_are_fewest (T : Txt K mg) : FnOk P w K mg base CX0 3 (ga K "_law_are_fewest") (fdOf K "_law_are_fewest") ["_law_words", "_law_found"] spFewest := by
  have G__law_whole := ok__law_whole (P := P) (w := w) (base := base) T
  have G__law_threads := ok__law_threads (P := P) (w := w) (base := base) T
  refine T.F__law_are_fewest.ok sc__law_are_fewest (fun vs H Q E h => ?_) (fun cdv A outer s H vs Q E hr h => ?_)
  · obtain ⟨t, f, ps, m, rfl, _⟩ := h
    rfl
  · obtain ⟨t, f, ps, m, rfl, ht, hf, hp, hap, hpos, hsh, hmost, hQ⟩ := h
    have hlen := hp.length
    have hml : m.length ≤ 10000 := Nat.le_trans hpos.length_le hmost
    refine ⟨_, PSs.nox (pss_cons (ps_if (pt_not (pt_val (pe_callB call_isi (by rfl) T.f_isinstance (by decide +kernel) (pa_cons (pv 1) (pa_cons (pe_bltn (v := .ty "tuple") (by rfl) T.f_tuple (by decide +kernel) rfl) pa_nil)))))
    (pss_one (ps_ret pe_bl))
    pss_nil)
    (pss_cons (ps_for PassesOwn.never rfl (pi_tup (pv 1)) (pg_name (i := 2) sc__law_are_fewest.nd rfl (Or.inl rfl))
    (pss_one (ps_if (PW.pt (pw_or (pt_not (pt_val (pe_callB call_isi (by rfl) T.f_isinstance (by decide +kernel) (pa_cons (pv 2) (pa_cons (pe_bltn (v := .ty "tuple") (by rfl) T.f_tuple (by decide +kernel) rfl) pa_nil))))) (pw_or (pt_cmpR op_ne (pe_callB call_len (by rfl) T.f_len (by decide +kernel) (pa_cons (pv 2) pa_nil)) pe_int (nomark _)) (pw_or (pt_not (pt_val (pe_callB call_isi (by rfl) T.f_isinstance (by decide +kernel) (pa_cons (pe_ix ix_tup (pv 2) pe_int (fun _ _ => rfl)) (pa_cons (pe_bltn (v := .ty "str") (by rfl) T.f_str (by decide +kernel) rfl) pa_nil))))) (pw_or1 (pt_not (pt_val (pe_call G__law_whole (hr.mono (by decide)) (by rfl) T.g__law_whole T.F__law_whole.kp T.b__law_whole .nil pass0 (pa_cons (pe_ix ix_tup (pv 2) pe_int (fun _ _ => rfl)) pa_nil)))))))))
     (pss_one (ps_ret pe_bl))
     pss_nil)))
    (pss_cons (ps_if (PW.pt (pw_or (pt_val (pe_callB (cr_any rfl) (by rfl) T.f_any (by decide +kernel) (pa_cons (pe_lc (own := [("_law_shade", 3), ("_law_count", 4)]) (g := gTup K 2 (gCons (gName 3) (gCons (gName 4) gNil))) rfl sc__law_are_fewest.nd (pi_tup (pv 1)) (blkOk_by (own := [("_law_shade", 3), ("_law_count", 4)]) (N := N__law_are_fewest) (sc := defScope s__law_are_fewest) (by decide +kernel)) (fun _ _ _ _ _ => (pg_tup rfl (pgs_cons (pg_name (i := 3) sc__law_are_fewest.nd rfl (Or.inl rfl)) (pgs_cons (pg_name (i := 4) sc__law_are_fewest.nd rfl (Or.inl rfl)) pgs_nil)))) (fun _ _ _ _ _ => pts_nil) (fun _ _ _ _ _ => (pe_cmpR op_lt (pv 4) pe_int (nomark _)))) pa_nil))) (pw_or1 (pt_cmpR (op_neD hr.units) (pe_call G__law_threads (hr.mono (by decide)) (by rfl) T.g__law_threads T.F__law_threads.kp T.b__law_threads .nil pass0 (pa_cons (pv 1) pa_nil)) (pe_callTy call_list_of (by rfl) T.f_list (by decide +kernel) (pa_cons (pv 0) pa_nil)) (nomark _)))))
    (pss_one (ps_ret pe_bl))
    pss_nil)
    (pss_one (ps_ret (pe_callB (cr_all rfl) (by rfl) T.f_all (by decide +kernel) (pa_cons (pe_lc (own := [("_law_k", 5)]) rfl sc__law_are_fewest.nd (pi_range2 (by rfl) T.f_range (pa_cons pe_int (pa_cons (pe_callB call_len (by rfl) T.f_len (by decide +kernel) (pa_cons (pv 1) pa_nil)) pa_nil))) (blkOk_by (own := [("_law_k", 5)]) (N := N__law_are_fewest) (sc := defScope s__law_are_fewest) (by decide +kernel)) (fun _ _ _ _ _ => (pg_name (i := 5) sc__law_are_fewest.nd rfl (Or.inl rfl))) (fun _ _ _ _ _ => pts_nil) (fun _ _ _ _ _ => (pe_cmpR op_ne (pe_ix (ix_tupK (K := K) rfl) (pe_ix (ix_tupK (K := K) rfl) (pv 1) (pe_op op_sub (pv 5) pe_int) (fun _ _ => rfl)) pe_int (fun _ _ => rfl)) (pe_ix (ix_tupK (K := K) rfl) (pe_ix (ix_tupK (K := K) rfl) (pv 1) (pv 5) (fun _ _ => rfl)) pe_int (fun _ _ => rfl)) (nomark _)))) pa_nil))))))), ?_⟩
    refine ⟨_, rfl, _, _, _, _, _, rfl, .ty _, .base (.tup hf), kit_ty (r := true) (by decide +kernel), _, rfl, iteF ?_⟩
    refine ⟨_, rfl, f, rfl, ⟨_, SqT.of hf⟩, ?_⟩
    refine for_it (walk_tup (xs := ps)) (fun i σ H' => ∃ u2, σ = [some (.ref t), some (.ref f), u2, none, none, none] ∧ Same H H') ⟨none, rfl, Same.refl H⟩ (fun i σ H' _ hP => ?_) (fun i x σ H0 H2 hi hP hy => ?_) fun σ H2 hP => ?_
    · obtain ⟨u2, rfl, s1⟩ := hP
      exact SqT.of (s1 _ _ hf)
    · obtain ⟨u2, rfl, s1⟩ := hP
      obtain ⟨rfl, hx⟩ := hy
      obtain ⟨b, z, n, rfl, e2, e3⟩ := hp.get hx
      have e3' := s1 _ _ e3
      refine ⟨_, rfl, _, _, _, _, _, rfl, .ty _, .base (.tup e3'), kit_ty (r := true) (by decide +kernel), _, rfl, iteF ?_⟩
      refine ⟨_, rfl, _, _, rfl, Or.inr ⟨_, SqT.of e3', rfl⟩, rfl, _, rfl, iteF ?_⟩
      refine ⟨_, rfl, b, _, _, _, rfl, rfl, SqT.of e3', rfl, _, _, _, _, _, rfl, .ty _, .base (.str z), kit_ty (r := true) (by decide +kernel), _, rfl, iteF ?_⟩
      refine ⟨_, rfl, b, _, _, _, rfl, rfl, SqT.of e3', rfl, _, rfl, .int _, _, rfl, iteF ?_⟩
      exact ⟨_, rfl, s1⟩
    · obtain ⟨u2, rfl, s1⟩ := hP
      have hf2 := s1 _ _ hf
      have ht2 := s1 _ _ ht
      have hp2 := hp.mono (Tups.of s1)
      refine ⟨_, rfl, f, rfl, ⟨_, SqT.of hf2⟩, fun D hD => lc_it (walk_tup (xs := ps)) (fun i H' => LcAt H2 D H' (List.replicate i (V.bl false))) (LcAt.start hD) (fun i H' _ hP => SqT.of (hP.same _ _ hf2)) (fun i x H3 H4 hi hP hy => ?_) fun H3 hP => ?_⟩
      · obtain ⟨rfl, hx⟩ := hy
        obtain ⟨b, z, n, rfl, e2, e3⟩ := hp2.get hx
        have e3' := hP.same _ _ e3
        have hn : 1 ≤ n := hpos _ (List.mem_of_getElem? e2)
        refine ⟨b, _, rfl, SqT.of e3', rfl, _, _, rfl, _, _, rfl, rfl, rfl, ?_⟩
        refine ⟨_, rfl, _, _, rfl, rfl, _, hP.it, ?_, ?_⟩
        · refine small ?_
          rw [List.length_replicate]
          omega
        · show LcAt H2 D (upd H4 D (.lst (List.replicate i (V.bl false) ++ [V.bl (decide ((n : Int) < 1))]))) _
          rw [decide_eq_false (show ¬ (n : Int) < 1 by omega), List.replicate_succ']
          exact hP.push
      · refine ⟨D, List.replicate ps.length false, rfl, SqL.of (by rw [hP.it, List.map_replicate]), _, rfl, ?_⟩
        rw [show (List.replicate ps.length false).any id = false by simp]
        refine iteF ?_
        have S3 := hP.same
        refine ⟨_, rfl, f, ps, m, rfl, S3 _ _ hf2, hp2.mono (Tups.of S3), by omega, fun H4 r S4 hr4 hr5 => ?_⟩
        have ht4 := S4 _ _ (S3 _ _ ht2)
        refine ⟨_, rfl, t, _, rfl, .inr (SqT.of ht4), fun l hl => ?_⟩
        have hr6 := same_new (o := .lst ((expand m).map V.str)) hl _ _ hr5
        refine ⟨_, _, .lst (SqL.of hr6) (dp_strs _ _ _), .lst (SqL.of upd_same) (dp_strs _ _ _), shaped_strs (expand_sh hsh), shaped_strs (expand_sh hsh), _, rfl, ?_⟩
        rw [eqv_strs (expand_sh hsh)]
        refine iteF ?_
        have S5 : Same H2 (upd H4 l (.lst ((expand m).map V.str))) := (S3.trans S4).trans (same_new hl)
        generalize upd H4 l (.lst ((expand m).map V.str)) = H5 at S5 hr6
        have hf5 := S5 _ _ hf2
        have hp5 := hp2.mono (Tups.of S5)
        refine ⟨_, rfl, _, _, rfl, Or.inr ⟨_, SqT.of hf5, rfl⟩, 1, (ps.length : Int), rfl, ⟨by decide, by decide, by omega, by omega⟩, ?_⟩
        refine fun D hD => lc_it (walk_range (lo := 1) (n := ((ps.length : Int) - 1).toNat)) (fun i H' => LcAt H5 D H' (List.replicate i (V.bl true))) (LcAt.start hD) (fun _ _ _ _ => True.intro) (fun i x H6 H7 hi hP hy => ?_) fun H6 hP => ?_
        · obtain ⟨rfl, rfl⟩ := hy
          have hi1 : i + 1 < ps.length := by omega
          have g1 : m[i]? = some (m[i]'(by omega)) := List.getElem?_eq_getElem (by omega)
          have g2 : m[i + 1]? = some (m[i + 1]'(by omega)) := List.getElem?_eq_getElem (by omega)
          have hne := hap.get g1 g2
          obtain ⟨a1, i1, k1⟩ := hp5.at (z := (m[i]'(by omega)).1) (n := (m[i]'(by omega)).2) g1
          obtain ⟨a2, i2, k2⟩ := hp5.at (z := (m[i + 1]'(by omega)).1) (n := (m[i + 1]'(by omega)).2) g2
          refine ⟨rfl, _, rfl, _, rfl, _, _, rfl, rfl, f, _, _, _, rfl, rfl, SqT.of (hP.same _ _ hf5), (show atI ps ((1 + (i : Nat) : Int) - 1) = some (.ref a1) by rw [show (1 + (i : Nat) : Int) - 1 = ((i : Nat) : Int) by omega]; exact atI_nat i1), a1, _, _, _, rfl, rfl, SqT.of (hP.same _ _ k1), rfl, ?_⟩
          refine ⟨_, rfl, _, rfl, f, _, _, _, rfl, rfl, SqT.of (hP.same _ _ hf5), (show atI ps (1 + (i : Nat) : Int) = some (.ref a2) by rw [show (1 + (i : Nat) : Int) = ((i + 1 : Nat) : Int) by omega]; exact atI_nat i2), a2, _, _, _, rfl, rfl, SqT.of (hP.same _ _ k2), rfl, rfl, _, hP.it, ?_, ?_⟩
          · refine small ?_
            rw [List.length_replicate]
            omega
          · rw [decide_eq_false (fun e => hne (V.str.inj e)), List.replicate_succ']
            exact hP.push
        · refine ⟨D, List.replicate ((ps.length : Int) - 1).toNat true, rfl, SqL.of (by rw [hP.it, List.map_replicate]), ?_⟩
          rw [show (List.replicate ((ps.length : Int) - 1).toNat true).all id = true by simp]
          exact hQ _ ((s1.trans S5).trans hP.same)
end
end S11

namespace S11
open PySem PySem.Spec PyProof.Rows L2 L2.Own He Sl
/-- what an error is, by a word -/
def spSort (K : PySem.W.Frag) : Sp := fun vs H Q _ => ∃ e : Addr, vs = [.ref e] ∧ H e = some (errO (.ref (ga K "NoThreads")) none e) ∧ ∀ H', Same H H' → Q (.str "threads") H'
theorem relR (a : Addr) : ∀ u, RelV (.ref a) u → u = .ref a := fun _ h => h
theorem relT (n : String) : ∀ u, RelV (.ty n) u → u = .type n := fun _ h => h
theorem dp_bools (K : PySem.W.Frag) (H : Hp) : ∀ bs : List Bool, DpAll K H (bs.map V.bl) (bs.map PyData.bool)
  | [] => .nil
  | b :: bs => .cons (.bl b) (dp_bools K H bs)
section
variable {P : Program} {w : World} {K : PySem.W.Frag} {mg : Str → Option Value} {base : Heap}
def N__law_sort : List Str := ["_law_caught", "_law_kinds", "_law_families", "_law_own", "_law_words", "_law_at", "_law_due", "_law_k"]
theorem sc__law_sort : FnScope N__law_sort ["_law_caught"] (defScope s__law_sort) := ⟨rfl, rfl, rfl, by decide +kernel, rfl, by decide +kernel, by decide +kernel⟩
theorem ok__law_sort (T : Txt K mg) : FnOk P w K mg base CX0 2 (ga K "_law_sort") (fdOf K "_law_sort") ["_law_caught"] (spSort K) := by
  refine T.F__law_sort.ok sc__law_sort (fun vs H Q E h => ?_) (fun cdv A outer s H vs Q E hr h => ?_)
  · obtain ⟨e, rfl, he, _⟩ := h
    rfl
  · obtain ⟨e, rfl, he, hQ⟩ := h
    refine ⟨_, PSs.nox (C8.pss_cut (ps_set (i := 1) sc__law_sort.nd rfl (Or.inl rfl) (pe_lst (pa_cons (pe_callB L2.Own.call_isX (by rfl) T.f_isinstance (by decide +kernel) (pa_cons (pv 0) (pa_cons (pe_glob (v := .ref (ga K "NoStripes")) rfl T.c_NoStripes rfl) pa_nil))) (pa_cons (pe_callB L2.Own.call_isX (by rfl) T.f_isinstance (by decide +kernel) (pa_cons (pv 0) (pa_cons (pe_glob (v := .ref (ga K "NoThreads")) rfl T.c_NoThreads rfl) pa_nil))) (pa_cons (pe_callB L2.Own.call_isX (by rfl) T.f_isinstance (by decide +kernel) (pa_cons (pv 0) (pa_cons (pe_glob (v := .ref (ga K "NoManner")) rfl T.c_NoManner rfl) pa_nil))) pa_nil)))))
    (C8.pss_cut (ps_set (i := 1) sc__law_sort.nd rfl (Or.inl rfl) (pe_op op_cat (pv 1) (pe_lst (pa_cons (pe_callB L2.Own.call_isX (by rfl) T.f_isinstance (by decide +kernel) (pa_cons (pv 0) (pa_cons (pe_glob (v := .ref (ga K "TooLong")) rfl T.c_TooLong rfl) pa_nil))) (pa_cons (pe_callB L2.Own.call_isX (by rfl) T.f_isinstance (by decide +kernel) (pa_cons (pv 0) (pa_cons (pe_glob (v := .ref (ga K "NoText")) rfl T.c_NoText rfl) pa_nil))) (pa_cons (pe_callB L2.Own.call_isX (by rfl) T.f_isinstance (by decide +kernel) (pa_cons (pv 0) (pa_cons (pe_glob (v := .ref (ga K "NoNumber")) rfl T.c_NoNumber rfl) pa_nil))) pa_nil))))))
    (C8.pss_cut (ps_set (i := 1) sc__law_sort.nd rfl (Or.inl rfl) (pe_op op_cat (pv 1) (pe_lst (pa_cons (pe_callB L2.Own.call_isX (by rfl) T.f_isinstance (by decide +kernel) (pa_cons (pv 0) (pa_cons (pe_glob (v := .ref (ga K "NoBox")) rfl T.c_NoBox rfl) pa_nil))) (pa_cons (pe_callB L2.Own.call_isX (by rfl) T.f_isinstance (by decide +kernel) (pa_cons (pv 0) (pa_cons (pe_glob (v := .ref (ga K "TooMany")) rfl T.c_TooMany rfl) pa_nil))) (pa_cons (pe_callB L2.Own.call_isX (by rfl) T.f_isinstance (by decide +kernel) (pa_cons (pv 0) (pa_cons (pe_glob (v := .ref (ga K "NoUndo")) rfl T.c_NoUndo rfl) pa_nil))) pa_nil))))))
    (C8.pss_cut (ps_set (i := 1) sc__law_sort.nd rfl (Or.inl rfl) (pe_op op_cat (pv 1) (pe_lst (pa_cons (pe_callB L2.Own.call_isX (by rfl) T.f_isinstance (by decide +kernel) (pa_cons (pv 0) (pa_cons (pe_glob (v := .ref (ga K "NoOrder")) rfl T.c_NoOrder rfl) pa_nil))) (pa_cons (pe_callB L2.Own.call_isX (by rfl) T.f_isinstance (by decide +kernel) (pa_cons (pv 0) (pa_cons (pe_glob (v := .ref (ga K "NoSpot")) rfl T.c_NoSpot rfl) pa_nil))) (pa_cons (pe_callB L2.Own.call_isX (by rfl) T.f_isinstance (by decide +kernel) (pa_cons (pv 0) (pa_cons (pe_glob (v := .ref (ga K "NoCut")) rfl T.c_NoCut rfl) pa_nil))) pa_nil))))))
    (C8.pss_cut (ps_set (i := 1) sc__law_sort.nd rfl (Or.inl rfl) (pe_op op_cat (pv 1) (pe_lst (pa_cons (pe_callB L2.Own.call_isX (by rfl) T.f_isinstance (by decide +kernel) (pa_cons (pv 0) (pa_cons (pe_glob (v := .ref (ga K "NoShade")) rfl T.c_NoShade rfl) pa_nil))) (pa_cons (pe_callB L2.Own.call_isX (by rfl) T.f_isinstance (by decide +kernel) (pa_cons (pv 0) (pa_cons (pe_glob (v := .ref (ga K "NoName")) rfl T.c_NoName rfl) pa_nil))) (pa_cons (pe_callB L2.Own.call_isX (by rfl) T.f_isinstance (by decide +kernel) (pa_cons (pv 0) (pa_cons (pe_glob (v := .ref (ga K "NoStep")) rfl T.c_NoStep rfl) pa_nil))) pa_nil))))))
    (C8.pss_cut (ps_set (i := 1) sc__law_sort.nd rfl (Or.inl rfl) (pe_op op_cat (pv 1) (pe_lst (pa_cons (pe_callB L2.Own.call_isX (by rfl) T.f_isinstance (by decide +kernel) (pa_cons (pv 0) (pa_cons (pe_glob (v := .ref (ga K "NoWay")) rfl T.c_NoWay rfl) pa_nil))) (pa_cons (pe_callB L2.Own.call_isX (by rfl) T.f_isinstance (by decide +kernel) (pa_cons (pv 0) (pa_cons (pe_glob (v := .ref (ga K "NoWeave")) rfl T.c_NoWeave rfl) pa_nil))) pa_nil)))))
    (C8.pss_cut (ps_set (i := 2) sc__law_sort.nd rfl (Or.inl rfl) (pe_lst (pa_cons (pe_callB L2.Own.call_isX (by rfl) T.f_isinstance (by decide +kernel) (pa_cons (pv 0) (pa_cons (pe_glob (v := .ref (ga K "StripeError")) rfl T.c_StripeError rfl) pa_nil))) (pa_cons (pe_callB L2.Own.call_isX (by rfl) T.f_isinstance (by decide +kernel) (pa_cons (pv 0) (pa_cons (pe_glob (v := .ref (ga K "SpotError")) rfl T.c_SpotError rfl) pa_nil))) (pa_cons (pe_callB L2.Own.call_isX (by rfl) T.f_isinstance (by decide +kernel) (pa_cons (pv 0) (pa_cons (pe_glob (v := .ref (ga K "ShadeError")) rfl T.c_ShadeError rfl) pa_nil))) pa_nil)))))
    (C8.pss_cut (ps_set (i := 2) sc__law_sort.nd rfl (Or.inl rfl) (pe_op op_cat (pv 2) (pe_lst (pa_cons (pe_callB L2.Own.call_isX (by rfl) T.f_isinstance (by decide +kernel) (pa_cons (pv 0) (pa_cons (pe_glob (v := .ref (ga K "StepError")) rfl T.c_StepError rfl) pa_nil))) (pa_cons (pe_callB L2.Own.call_isX (by rfl) T.f_isinstance (by decide +kernel) (pa_cons (pv 0) (pa_cons (pe_glob (v := .ref (ga K "WayError")) rfl T.c_WayError rfl) pa_nil))) pa_nil)))))
    (C8.pss_cut (ps_set (i := 3) sc__law_sort.nd rfl (Or.inl rfl) (pe_lst (pa_cons (pe_callB L2.Own.call_isX (by rfl) T.f_isinstance (by decide +kernel) (pa_cons (pv 0) (pa_cons (pe_bltn (v := .ty "ValueError") (by rfl) T.f_ValueError (by decide +kernel) rfl) pa_nil))) (pa_cons (pe_callB L2.Own.call_isX (by rfl) T.f_isinstance (by decide +kernel) (pa_cons (pv 0) (pa_cons (pe_bltn (v := .ty "IndexError") (by rfl) T.f_IndexError (by decide +kernel) rfl) pa_nil))) (pa_cons (pe_callB L2.Own.call_isX (by rfl) T.f_isinstance (by decide +kernel) (pa_cons (pv 0) (pa_cons (pe_bltn (v := .ty "KeyError") (by rfl) T.f_KeyError (by decide +kernel) rfl) pa_nil))) pa_nil)))))
    (C8.pss_cut (ps_set (i := 3) sc__law_sort.nd rfl (Or.inl rfl) (pe_op op_cat (pv 3) (pe_lst (pa_cons (pe_callB L2.Own.call_isX (by rfl) T.f_isinstance (by decide +kernel) (pa_cons (pv 0) (pa_cons (pe_bltn (v := .ty "ZeroDivisionError") (by rfl) T.f_ZeroDivisionError (by decide +kernel) rfl) pa_nil))) pa_nil))))
    (C8.pss_cut (ps_set (i := 4) sc__law_sort.nd rfl (Or.inl rfl) (pe_lst (pa_cons pe_str (pa_cons pe_str (pa_cons pe_str (pa_cons pe_str (pa_cons pe_str (pa_cons pe_str (pa_cons pe_str (pa_cons pe_str (pa_cons pe_str (pa_cons pe_str (pa_cons pe_str (pa_cons pe_str pa_nil))))))))))))))
    (C8.pss_cut (ps_set (i := 4) sc__law_sort.nd rfl (Or.inl rfl) (pe_op op_cat (pv 4) (pe_lst (pa_cons pe_str (pa_cons pe_str (pa_cons pe_str (pa_cons pe_str (pa_cons pe_str pa_nil))))))))
    (pss_cons (ps_if (PW.pt (pw_or (pt_cmpR op_ne (pe_bm PySem.F.plainAttrs_list PySem.F.slot_list_count PySem.F.type_list_count L2.Own.mt_bcount (pv 1) (pa_cons pe_bl pa_nil)) pe_int (nomark _)) (pw_or1 (pt_cmpR op_ne (pe_bm PySem.F.plainAttrs_list PySem.F.slot_list_count PySem.F.type_list_count L2.Own.mt_bcount (pv 2) (pa_cons pe_bl pa_nil)) pe_int (nomark _)))))
    (pss_one (ps_ret pe_str))
    pss_nil)
    (pss_cons (ps_set (i := 5) sc__law_sort.nd rfl (Or.inr rfl) (pe_bm PySem.F.plainAttrs_list PySem.F.slot_list_index PySem.F.type_list_index mt_index (pv 1) (pa_cons pe_bl pa_nil)))
    (C8.pss_cut (ps_set (i := 6) sc__law_sort.nd rfl (Or.inr rfl) (pe_op op_cat (pe_op op_rep (pe_lst (pa_cons pe_int pa_nil)) pe_int) (pe_lst (pa_cons pe_int (pa_cons pe_int (pa_cons pe_int (pa_cons pe_int (pa_cons pe_int (pa_cons pe_int (pa_cons pe_int pa_nil))))))))))
    (pss_cons (ps_if (PW.pt (pw_or (pt_cmpR op_ne (pe_bm PySem.F.plainAttrs_list PySem.F.slot_list_index PySem.F.type_list_index mt_index (pv 2) (pa_cons pe_bl pa_nil)) (pe_ix ix_list (pv 6) (pv 5) (fun _ _ => rfl)) (nomark _)) (pw_or1 (pt_cmpR (op_neD hr.units) (pv 3) (pe_lc (own := [("_law_k", 7)]) rfl sc__law_sort.nd (pi_range1 (by rfl) T.f_range (pa_cons pe_int pa_nil)) (blkOk_by (own := [("_law_k", 7)]) (N := N__law_sort) (sc := defScope s__law_sort) (by decide +kernel)) (fun _ _ _ _ _ => (pg_name (i := 7) sc__law_sort.nd rfl (Or.inl rfl))) (fun _ _ _ _ _ => pts_nil) (fun _ _ _ _ _ => (pe_cmpR op_eq (pe_ix (ix_listK (K := K) rfl) (pv 6) (pv 5) (fun _ _ => rfl)) (pv 7) (nomark _)))) (nomark _)))))
    (pss_one (ps_ret pe_str))
    pss_nil)
    (pss_cons (ps_if (pt_cmpR op_ne (pe_callB L2.Own.call_isX (by rfl) T.f_isinstance (by decide +kernel) (pa_cons (pv 0) (pa_cons (pe_bltn (v := .ty "LookupError") (by rfl) T.f_LookupError (by decide +kernel) rfl) pa_nil))) (pe_cmpR op_in_seq (pe_ix ix_list (pv 6) (pv 5) (fun _ _ => rfl)) (pe_lst (pa_cons pe_int (pa_cons pe_int (pa_cons pe_int pa_nil)))) (by rfl)) (nomark _))
    (pss_one (ps_ret pe_str))
    pss_nil)
    (pss_one (ps_ret (pe_ix ix_list (pv 4) (pv 5) (fun _ _ => rfl))))))))))))))))))))), ?_⟩
    have S0 : Same H H := Same.refl H
    refine ⟨fun σ H' => ∃ a1, σ = [some (.ref e), some (.ref a1), none, none, none, none, none, none] ∧ Same H H' ∧ H' a1 = some (.lst [V.bl false, V.bl true, V.bl false]), ?_, fun σ HH hM => ?_⟩
    · refine ⟨_, rfl, e, _, _, _, _, rfl, S0 _ _ he, T.xe_NoThreads, relR _, T.xi_NoThreads_NoStripes, ?_⟩
      refine ⟨_, rfl, e, _, _, _, _, rfl, S0 _ _ he, T.xe_NoThreads, relR _, T.xi_NoThreads_NoThreads, ?_⟩
      refine ⟨_, rfl, e, _, _, _, _, rfl, S0 _ _ he, T.xe_NoThreads, relR _, T.xi_NoThreads_NoManner, ?_⟩
      refine ⟨(by show 3 ≤ sizeLine; decide), fun l hl => ?_⟩
      exact ⟨l, rfl, (S0.trans (same_new hl)), upd_same⟩
    obtain ⟨a1, rfl, S1, k_a1⟩ := hM
    refine ⟨fun σ H' => ∃ a2, σ = [some (.ref e), some (.ref a2), none, none, none, none, none, none] ∧ Same H H' ∧ H' a2 = some (.lst ([V.bl false, V.bl true, V.bl false] ++ [V.bl false, V.bl false, V.bl false])), ?_, fun σ HH hM => ?_⟩
    · refine ⟨_, rfl, ?_⟩
      refine ⟨_, rfl, e, _, _, _, _, rfl, S1 _ _ he, T.xe_NoThreads, relR _, T.xi_NoThreads_TooLong, ?_⟩
      refine ⟨_, rfl, e, _, _, _, _, rfl, S1 _ _ he, T.xe_NoThreads, relR _, T.xi_NoThreads_NoText, ?_⟩
      refine ⟨_, rfl, e, _, _, _, _, rfl, S1 _ _ he, T.xe_NoThreads, relR _, T.xi_NoThreads_NoNumber, ?_⟩
      refine ⟨(by show 3 ≤ sizeLine; decide), fun l hl => ?_⟩
      refine ⟨a1, l, _, _, rfl, rfl, same_new hl _ _ k_a1, upd_same, (by show _ + 3 ≤ sizeLine; decide), fun q hq => ?_⟩
      exact ⟨q, rfl, ((S1.trans (same_new hl)).trans (same_new hq)), upd_same⟩
    obtain ⟨a2, rfl, S11, k_a2⟩ := hM
    refine ⟨fun σ H' => ∃ a3, σ = [some (.ref e), some (.ref a3), none, none, none, none, none, none] ∧ Same H H' ∧ H' a3 = some (.lst (([V.bl false, V.bl true, V.bl false] ++ [V.bl false, V.bl false, V.bl false]) ++ [V.bl false, V.bl false, V.bl false])), ?_, fun σ HH hM => ?_⟩
    · refine ⟨_, rfl, ?_⟩
      refine ⟨_, rfl, e, _, _, _, _, rfl, S11 _ _ he, T.xe_NoThreads, relR _, T.xi_NoThreads_NoBox, ?_⟩
      refine ⟨_, rfl, e, _, _, _, _, rfl, S11 _ _ he, T.xe_NoThreads, relR _, T.xi_NoThreads_TooMany, ?_⟩
      refine ⟨_, rfl, e, _, _, _, _, rfl, S11 _ _ he, T.xe_NoThreads, relR _, T.xi_NoThreads_NoUndo, ?_⟩
      refine ⟨(by show 3 ≤ sizeLine; decide), fun l hl => ?_⟩
      refine ⟨a2, l, _, _, rfl, rfl, same_new hl _ _ k_a2, upd_same, (by show _ + 3 ≤ sizeLine; decide), fun q hq => ?_⟩
      exact ⟨q, rfl, ((S11.trans (same_new hl)).trans (same_new hq)), upd_same⟩
    obtain ⟨a3, rfl, S3, k_a3⟩ := hM
    refine ⟨fun σ H' => ∃ a4, σ = [some (.ref e), some (.ref a4), none, none, none, none, none, none] ∧ Same H H' ∧ H' a4 = some (.lst ((([V.bl false, V.bl true, V.bl false] ++ [V.bl false, V.bl false, V.bl false]) ++ [V.bl false, V.bl false, V.bl false]) ++ [V.bl false, V.bl false, V.bl false])), ?_, fun σ HH hM => ?_⟩
    · refine ⟨_, rfl, ?_⟩
      refine ⟨_, rfl, e, _, _, _, _, rfl, S3 _ _ he, T.xe_NoThreads, relR _, T.xi_NoThreads_NoOrder, ?_⟩
      refine ⟨_, rfl, e, _, _, _, _, rfl, S3 _ _ he, T.xe_NoThreads, relR _, T.xi_NoThreads_NoSpot, ?_⟩
      refine ⟨_, rfl, e, _, _, _, _, rfl, S3 _ _ he, T.xe_NoThreads, relR _, T.xi_NoThreads_NoCut, ?_⟩
      refine ⟨(by show 3 ≤ sizeLine; decide), fun l hl => ?_⟩
      refine ⟨a3, l, _, _, rfl, rfl, same_new hl _ _ k_a3, upd_same, (by show _ + 3 ≤ sizeLine; decide), fun q hq => ?_⟩
      exact ⟨q, rfl, ((S3.trans (same_new hl)).trans (same_new hq)), upd_same⟩
    obtain ⟨a4, rfl, S4, k_a4⟩ := hM
    refine ⟨fun σ H' => ∃ a5, σ = [some (.ref e), some (.ref a5), none, none, none, none, none, none] ∧ Same H H' ∧ H' a5 = some (.lst (((([V.bl false, V.bl true, V.bl false] ++ [V.bl false, V.bl false, V.bl false]) ++ [V.bl false, V.bl false, V.bl false]) ++ [V.bl false, V.bl false, V.bl false]) ++ [V.bl false, V.bl false, V.bl false])), ?_, fun σ HH hM => ?_⟩
    · refine ⟨_, rfl, ?_⟩
      refine ⟨_, rfl, e, _, _, _, _, rfl, S4 _ _ he, T.xe_NoThreads, relR _, T.xi_NoThreads_NoShade, ?_⟩
      refine ⟨_, rfl, e, _, _, _, _, rfl, S4 _ _ he, T.xe_NoThreads, relR _, T.xi_NoThreads_NoName, ?_⟩
      refine ⟨_, rfl, e, _, _, _, _, rfl, S4 _ _ he, T.xe_NoThreads, relR _, T.xi_NoThreads_NoStep, ?_⟩
      refine ⟨(by show 3 ≤ sizeLine; decide), fun l hl => ?_⟩
      refine ⟨a4, l, _, _, rfl, rfl, same_new hl _ _ k_a4, upd_same, (by show _ + 3 ≤ sizeLine; decide), fun q hq => ?_⟩
      exact ⟨q, rfl, ((S4.trans (same_new hl)).trans (same_new hq)), upd_same⟩
    obtain ⟨a5, rfl, S5, k_a5⟩ := hM
    refine ⟨fun σ H' => ∃ a6, σ = [some (.ref e), some (.ref a6), none, none, none, none, none, none] ∧ Same H H' ∧ H' a6 = some (.lst ((((([V.bl false, V.bl true, V.bl false] ++ [V.bl false, V.bl false, V.bl false]) ++ [V.bl false, V.bl false, V.bl false]) ++ [V.bl false, V.bl false, V.bl false]) ++ [V.bl false, V.bl false, V.bl false]) ++ [V.bl false, V.bl false])), ?_, fun σ HH hM => ?_⟩
    · refine ⟨_, rfl, ?_⟩
      refine ⟨_, rfl, e, _, _, _, _, rfl, S5 _ _ he, T.xe_NoThreads, relR _, T.xi_NoThreads_NoWay, ?_⟩
      refine ⟨_, rfl, e, _, _, _, _, rfl, S5 _ _ he, T.xe_NoThreads, relR _, T.xi_NoThreads_NoWeave, ?_⟩
      refine ⟨(by show 2 ≤ sizeLine; decide), fun l hl => ?_⟩
      refine ⟨a5, l, _, _, rfl, rfl, same_new hl _ _ k_a5, upd_same, (by show _ + 2 ≤ sizeLine; decide), fun q hq => ?_⟩
      exact ⟨q, rfl, ((S5.trans (same_new hl)).trans (same_new hq)), upd_same⟩
    obtain ⟨a6, rfl, S6, k_a6⟩ := hM
    refine ⟨fun σ H' => ∃ a6 c1, σ = [some (.ref e), some (.ref a6), some (.ref c1), none, none, none, none, none] ∧ Same H H' ∧ H' a6 = some (.lst ((((([V.bl false, V.bl true, V.bl false] ++ [V.bl false, V.bl false, V.bl false]) ++ [V.bl false, V.bl false, V.bl false]) ++ [V.bl false, V.bl false, V.bl false]) ++ [V.bl false, V.bl false, V.bl false]) ++ [V.bl false, V.bl false])) ∧ H' c1 = some (.lst [V.bl true, V.bl false, V.bl false]), ?_, fun σ HH hM => ?_⟩
    · refine ⟨_, rfl, e, _, _, _, _, rfl, S6 _ _ he, T.xe_NoThreads, relR _, T.xi_NoThreads_StripeError, ?_⟩
      refine ⟨_, rfl, e, _, _, _, _, rfl, S6 _ _ he, T.xe_NoThreads, relR _, T.xi_NoThreads_SpotError, ?_⟩
      refine ⟨_, rfl, e, _, _, _, _, rfl, S6 _ _ he, T.xe_NoThreads, relR _, T.xi_NoThreads_ShadeError, ?_⟩
      refine ⟨(by show 3 ≤ sizeLine; decide), fun l hl => ?_⟩
      exact ⟨a6, l, rfl, (S6.trans (same_new hl)), (same_new hl _ _ k_a6), upd_same⟩
    obtain ⟨a6, c1, rfl, S7, k_a6, k_c1⟩ := hM
    refine ⟨fun σ H' => ∃ a6 c2, σ = [some (.ref e), some (.ref a6), some (.ref c2), none, none, none, none, none] ∧ Same H H' ∧ H' a6 = some (.lst ((((([V.bl false, V.bl true, V.bl false] ++ [V.bl false, V.bl false, V.bl false]) ++ [V.bl false, V.bl false, V.bl false]) ++ [V.bl false, V.bl false, V.bl false]) ++ [V.bl false, V.bl false, V.bl false]) ++ [V.bl false, V.bl false])) ∧ H' c2 = some (.lst ([V.bl true, V.bl false, V.bl false] ++ [V.bl false, V.bl false])), ?_, fun σ HH hM => ?_⟩
    · refine ⟨_, rfl, ?_⟩
      refine ⟨_, rfl, e, _, _, _, _, rfl, S7 _ _ he, T.xe_NoThreads, relR _, T.xi_NoThreads_StepError, ?_⟩
      refine ⟨_, rfl, e, _, _, _, _, rfl, S7 _ _ he, T.xe_NoThreads, relR _, T.xi_NoThreads_WayError, ?_⟩
      refine ⟨(by show 2 ≤ sizeLine; decide), fun l hl => ?_⟩
      refine ⟨c1, l, _, _, rfl, rfl, same_new hl _ _ k_c1, upd_same, (by show _ + 2 ≤ sizeLine; decide), fun q hq => ?_⟩
      exact ⟨a6, q, rfl, ((S7.trans (same_new hl)).trans (same_new hq)), (same_new hq _ _ (same_new hl _ _ k_a6)), upd_same⟩
    obtain ⟨a6, c2, rfl, S8, k_a6, k_c2⟩ := hM
    refine ⟨fun σ H' => ∃ a6 c2 f1, σ = [some (.ref e), some (.ref a6), some (.ref c2), some (.ref f1), none, none, none, none] ∧ Same H H' ∧ H' a6 = some (.lst ((((([V.bl false, V.bl true, V.bl false] ++ [V.bl false, V.bl false, V.bl false]) ++ [V.bl false, V.bl false, V.bl false]) ++ [V.bl false, V.bl false, V.bl false]) ++ [V.bl false, V.bl false, V.bl false]) ++ [V.bl false, V.bl false])) ∧ H' c2 = some (.lst ([V.bl true, V.bl false, V.bl false] ++ [V.bl false, V.bl false])) ∧ H' f1 = some (.lst [V.bl true, V.bl false, V.bl false]), ?_, fun σ HH hM => ?_⟩
    · refine ⟨_, rfl, e, _, _, _, _, rfl, S8 _ _ he, T.xe_NoThreads, relT _, T.xi_NoThreads_ValueError, ?_⟩
      refine ⟨_, rfl, e, _, _, _, _, rfl, S8 _ _ he, T.xe_NoThreads, relT _, T.xi_NoThreads_IndexError, ?_⟩
      refine ⟨_, rfl, e, _, _, _, _, rfl, S8 _ _ he, T.xe_NoThreads, relT _, T.xi_NoThreads_KeyError, ?_⟩
      refine ⟨(by show 3 ≤ sizeLine; decide), fun l hl => ?_⟩
      exact ⟨a6, c2, l, rfl, (S8.trans (same_new hl)), (same_new hl _ _ k_a6), (same_new hl _ _ k_c2), upd_same⟩
    obtain ⟨a6, c2, f1, rfl, S9, k_a6, k_c2, k_f1⟩ := hM
    refine ⟨fun σ H' => ∃ a6 c2 f2, σ = [some (.ref e), some (.ref a6), some (.ref c2), some (.ref f2), none, none, none, none] ∧ Same H H' ∧ H' a6 = some (.lst ((((([V.bl false, V.bl true, V.bl false] ++ [V.bl false, V.bl false, V.bl false]) ++ [V.bl false, V.bl false, V.bl false]) ++ [V.bl false, V.bl false, V.bl false]) ++ [V.bl false, V.bl false, V.bl false]) ++ [V.bl false, V.bl false])) ∧ H' c2 = some (.lst ([V.bl true, V.bl false, V.bl false] ++ [V.bl false, V.bl false])) ∧ H' f2 = some (.lst ([V.bl true, V.bl false, V.bl false] ++ [V.bl false])), ?_, fun σ HH hM => ?_⟩
    · refine ⟨_, rfl, ?_⟩
      refine ⟨_, rfl, e, _, _, _, _, rfl, S9 _ _ he, T.xe_NoThreads, relT _, T.xi_NoThreads_ZeroDivisionError, ?_⟩
      refine ⟨(by show 1 ≤ sizeLine; decide), fun l hl => ?_⟩
      refine ⟨f1, l, _, _, rfl, rfl, same_new hl _ _ k_f1, upd_same, (by show _ + 1 ≤ sizeLine; decide), fun q hq => ?_⟩
      exact ⟨a6, c2, q, rfl, ((S9.trans (same_new hl)).trans (same_new hq)), (same_new hq _ _ (same_new hl _ _ k_a6)), (same_new hq _ _ (same_new hl _ _ k_c2)), upd_same⟩
    obtain ⟨a6, c2, f2, rfl, S10, k_a6, k_c2, k_f2⟩ := hM
    refine ⟨fun σ H' => ∃ a6 c2 f2 g1, σ = [some (.ref e), some (.ref a6), some (.ref c2), some (.ref f2), some (.ref g1), none, none, none] ∧ Same H H' ∧ H' a6 = some (.lst ((((([V.bl false, V.bl true, V.bl false] ++ [V.bl false, V.bl false, V.bl false]) ++ [V.bl false, V.bl false, V.bl false]) ++ [V.bl false, V.bl false, V.bl false]) ++ [V.bl false, V.bl false, V.bl false]) ++ [V.bl false, V.bl false])) ∧ H' c2 = some (.lst ([V.bl true, V.bl false, V.bl false] ++ [V.bl false, V.bl false])) ∧ H' f2 = some (.lst ([V.bl true, V.bl false, V.bl false] ++ [V.bl false])) ∧ H' g1 = some (.lst [V.str "stripes", V.str "threads", V.str "manner", V.str "long", V.str "text", V.str "number", V.str "box", V.str "many", V.str "undo", V.str "order", V.str "spot", V.str "cut"]), ?_, fun σ HH hM => ?_⟩
    · refine ⟨(by show 12 ≤ sizeLine; decide), fun l hl => ?_⟩
      exact ⟨a6, c2, f2, l, rfl, (S10.trans (same_new hl)), (same_new hl _ _ k_a6), (same_new hl _ _ k_c2), (same_new hl _ _ k_f2), upd_same⟩
    obtain ⟨a6, c2, f2, g1, rfl, S11, k_a6, k_c2, k_f2, k_g1⟩ := hM
    refine ⟨fun σ H' => ∃ a6 c2 f2 g2, σ = [some (.ref e), some (.ref a6), some (.ref c2), some (.ref f2), some (.ref g2), none, none, none] ∧ Same H H' ∧ H' a6 = some (.lst ((((([V.bl false, V.bl true, V.bl false] ++ [V.bl false, V.bl false, V.bl false]) ++ [V.bl false, V.bl false, V.bl false]) ++ [V.bl false, V.bl false, V.bl false]) ++ [V.bl false, V.bl false, V.bl false]) ++ [V.bl false, V.bl false])) ∧ H' c2 = some (.lst ([V.bl true, V.bl false, V.bl false] ++ [V.bl false, V.bl false])) ∧ H' f2 = some (.lst ([V.bl true, V.bl false, V.bl false] ++ [V.bl false])) ∧ H' g2 = some (.lst ([V.str "stripes", V.str "threads", V.str "manner", V.str "long", V.str "text", V.str "number", V.str "box", V.str "many", V.str "undo", V.str "order", V.str "spot", V.str "cut"] ++ [V.str "shade", V.str "name", V.str "step", V.str "way", V.str "weave"])), ?_, fun σ HH hM => ?_⟩
    · refine ⟨_, rfl, ?_⟩
      refine ⟨(by show 5 ≤ sizeLine; decide), fun l hl => ?_⟩
      refine ⟨g1, l, _, _, rfl, rfl, same_new hl _ _ k_g1, upd_same, (by show _ + 5 ≤ sizeLine; decide), fun q hq => ?_⟩
      exact ⟨a6, c2, f2, q, rfl, ((S11.trans (same_new hl)).trans (same_new hq)), (same_new hq _ _ (same_new hl _ _ k_a6)), (same_new hq _ _ (same_new hl _ _ k_c2)), (same_new hq _ _ (same_new hl _ _ k_f2)), upd_same⟩
    obtain ⟨a6, c2, f2, g2, rfl, S12, k_a6, k_c2, k_f2, k_g2⟩ := hM
    refine ⟨_, rfl, Or.inl ⟨rfl, _, SqL.of k_a6⟩, a6, [false, true, false, false, false, false, false, false, false, false, false, false, false, false, false, false, false], true, rfl, rfl, SqL.of k_a6, rfl, _, rfl, iteF ?_⟩
    refine ⟨_, rfl, Or.inl ⟨rfl, _, SqL.of k_c2⟩, c2, [true, false, false, false, false], true, rfl, rfl, SqL.of k_c2, rfl, _, rfl, iteF ?_⟩
    refine ⟨_, rfl, Or.inl ⟨rfl, _, SqL.of k_a6⟩, a6, _, _, 1, _, rfl, rfl, SqL.of k_a6, rfl, rfl, rfl, rfl, (fun m z hm h => by
      match m, hm, h with
      | 0, _, h => cases h; rfl), ?_⟩
    refine ⟨fun σ H' => ∃ a6 c2 f2 g2 i4, σ = [some (.ref e), some (.ref a6), some (.ref c2), some (.ref f2), some (.ref g2), some (.int ((1 : Nat) : Int)), some (.ref i4), none] ∧ Same H H' ∧ H' a6 = some (.lst ((((([V.bl false, V.bl true, V.bl false] ++ [V.bl false, V.bl false, V.bl false]) ++ [V.bl false, V.bl false, V.bl false]) ++ [V.bl false, V.bl false, V.bl false]) ++ [V.bl false, V.bl false, V.bl false]) ++ [V.bl false, V.bl false])) ∧ H' c2 = some (.lst ([V.bl true, V.bl false, V.bl false] ++ [V.bl false, V.bl false])) ∧ H' f2 = some (.lst ([V.bl true, V.bl false, V.bl false] ++ [V.bl false])) ∧ H' g2 = some (.lst ([V.str "stripes", V.str "threads", V.str "manner", V.str "long", V.str "text", V.str "number", V.str "box", V.str "many", V.str "undo", V.str "order", V.str "spot", V.str "cut"] ++ [V.str "shade", V.str "name", V.str "step", V.str "way", V.str "weave"])) ∧ H' i4 = some (.lst ((List.replicate (10 : Int).toNat [V.int 0]).flatten ++ [V.int 1, V.int 1, V.int 2, V.int 2, V.int 3, V.int 4, V.int 4])), ?_, fun σ HH hM => ?_⟩
    · refine ⟨(by show 1 ≤ sizeLine; decide), fun l hl => ?_⟩
      refine ⟨l, 10, _, rfl, rfl, upd_same, by decide, by decide, (by show 1 * 10 ≤ sizeLine; decide), fun q hq => ?_⟩
      refine ⟨(by show 7 ≤ sizeLine; decide), fun r hr3 => ?_⟩
      refine ⟨q, r, _, _, rfl, rfl, same_new hr3 _ _ upd_same, upd_same, (by show 10 + 7 ≤ sizeLine; decide), fun u hu => ?_⟩
      exact ⟨a6, c2, f2, g2, u, rfl, ((((S12.trans (same_new hl)).trans (same_new hq)).trans (same_new hr3)).trans (same_new hu)), (same_new hu _ _ (same_new hr3 _ _ (same_new hq _ _ (same_new hl _ _ k_a6)))), (same_new hu _ _ (same_new hr3 _ _ (same_new hq _ _ (same_new hl _ _ k_c2)))), (same_new hu _ _ (same_new hr3 _ _ (same_new hq _ _ (same_new hl _ _ k_f2)))), (same_new hu _ _ (same_new hr3 _ _ (same_new hq _ _ (same_new hl _ _ k_g2)))), upd_same⟩
    obtain ⟨a6, c2, f2, g2, i4, rfl, S13, k_a6, k_c2, k_f2, k_g2, k_i4⟩ := hM
    refine ⟨_, rfl, Or.inl ⟨rfl, _, SqL.of k_c2⟩, c2, _, _, 0, _, rfl, rfl, SqL.of k_c2, rfl, rfl, rfl, rfl, (fun m _ hm _ => absurd hm (Nat.not_lt_zero m)), ?_⟩
    refine ⟨_, rfl, _, rfl, i4, _, _, _, rfl, rfl, SqL.of k_i4, (show atI ((List.replicate (10 : Int).toNat [V.int 0]).flatten ++ [V.int 1, V.int 1, V.int 2, V.int 2, V.int 3, V.int 4, V.int 4]) ((1 : Nat) : Int) = some (V.int 0) from atI_nat rfl), rfl, _, rfl, iteF ?_⟩
    refine ⟨_, rfl, 4, rfl, by decide, by decide, fun D hD => lc_it (walk_range (lo := 0) (n := 4)) (fun i H' => LcAt HH D H' (([V.bl true, V.bl false, V.bl false, V.bl false] : List V).take i)) (LcAt.start hD) (fun _ _ _ _ => True.intro) (fun i x Ha Hb hi hP hy => ?_) fun Ha hP => ?_⟩
    · obtain ⟨rfl, rfl⟩ := hy
      refine ⟨rfl, _, rfl, _, rfl, i4, _, _, _, rfl, rfl, SqL.of (hP.same _ _ k_i4), (show atI ((List.replicate (10 : Int).toNat [V.int 0]).flatten ++ [V.int 1, V.int 1, V.int 2, V.int 2, V.int 3, V.int 4, V.int 4]) ((1 : Nat) : Int) = some (V.int 0) from atI_nat rfl), _, rfl, rfl, _, hP.it, ?_, ?_⟩
      · refine small ?_
        rw [List.length_take]
        omega
      · have e5 : ([V.bl true, V.bl false, V.bl false, V.bl false] : List V).take (i + 1) = ([V.bl true, V.bl false, V.bl false, V.bl false] : List V).take i ++ [V.bl (decide (V.int 0 = V.int (0 + (i : Nat))))] := by
          match i, hi with
          | 0, _ => rfl
          | 1, _ => rfl
          | 2, _ => rfl
          | 3, _ => rfl
        rw [e5]
        exact hP.push
    · have hf2 := hP.same _ _ k_f2
      refine ⟨.list ([true, false, false, false].map PyData.bool), .list ([true, false, false, false].map PyData.bool), .lst (SqL.of hf2) (dp_bools _ _ [true, false, false, false]), .lst (SqL.of hP.it) (dp_bools _ _ [true, false, false, false]), by decide, by decide, _, rfl, iteF ?_⟩
      refine ⟨_, rfl, e, _, _, _, _, rfl, hP.same _ _ (S13 _ _ he), T.xe_NoThreads, relT _, T.xi_NoThreads_LookupError, ?_⟩
      refine ⟨_, rfl, _, rfl, i4, _, _, _, rfl, rfl, SqL.of (hP.same _ _ k_i4), (show atI ((List.replicate (10 : Int).toNat [V.int 0]).flatten ++ [V.int 1, V.int 1, V.int 2, V.int 2, V.int 3, V.int 4, V.int 4]) ((1 : Nat) : Int) = some (V.int 0) from atI_nat rfl), (by show 3 ≤ sizeLine; decide), fun l hl => ?_⟩
      refine ⟨l, _, rfl, .inl (SqL.of upd_same), rfl, rfl, rfl, _, rfl, iteF ?_⟩
      refine ⟨_, rfl, _, rfl, g2, _, _, _, rfl, rfl, SqL.of (same_new hl _ _ (hP.same _ _ k_g2)), (show atI ([V.str "stripes", V.str "threads", V.str "manner", V.str "long", V.str "text", V.str "number", V.str "box", V.str "many", V.str "undo", V.str "order", V.str "spot", V.str "cut"] ++ [V.str "shade", V.str "name", V.str "step", V.str "way", V.str "weave"]) ((1 : Nat) : Int) = some (V.str "threads") from atI_nat rfl), ?_⟩
      exact hQ _ ((S13.trans hP.same).trans (same_new hl))
end
end S11

namespace S11
open PySem PySem.Spec PyProof.Rows L2 L2.Own He Sl
theorem fine_good {zs : List Str} (h : FineT zs) : goodT (zs.map V.str) = true := by
  unfold goodT
  have h1 : 0 < zs.length := List.length_pos_iff.mpr h.ne
  rw [Bool.and_eq_true]
  refine ⟨decide_eq_true ?_, ?_⟩
  · rw [List.length_map]
    exact ⟨h1, h.most⟩
  · rw [List.all_map, List.all_eq_true]
    exact fun z hz => h.sh z hz
/-- what is no threads is refused -/
def spRefused : Sp := fun vs H Q _ => ∃ v, vs = [v] ∧ Th2 H v ∧ thrV H v = false ∧ ∀ H', Same H H' → Q (.bl true) H'
section
variable {P : Program} {w : World} {K : PySem.W.Frag} {mg : Str → Option Value} {base : Heap}
def N__law_refused : List Str := ["_law_thing", "_law_caught", "e"]
theorem sc__law_refused : FnScope N__law_refused ["_law_thing"] (defScope s__law_refused) := ⟨rfl, rfl, rfl, by decide +kernel, rfl, by decide +kernel, by decide +kernel⟩
theorem ok__law_refused (T : Txt K mg) : FnOk P w K mg base CX0 5 (ga K "_law_refused") (fdOf K "_law_refused") ["_law_thing"] spRefused := by
  have G_stripes_of := ok_stripes_of (P := P) (w := w) (base := base) T
  have G__law_sort := ok__law_sort (P := P) (w := w) (base := base) T
  refine T.F__law_refused.ok sc__law_refused (fun vs H Q E h => ?_) (fun cdv A outer s H vs Q E hr h => ?_)
  · obtain ⟨v, rfl, _⟩ := h
    rfl
  · obtain ⟨v, rfl, hv, hno, hQ⟩ := h
    refine ⟨_, PSs.nox (pss_cons (ps_set (i := 1) sc__law_refused.nd rfl (Or.inl rfl) pe_non)
    (pss_cons (ps_try_keep (i := 2) rfl rfl rfl sc__law_refused.nd rfl rfl ⟨rfl, by decide, .inl T.c_StripeError⟩ takes0
      (fun W pn xe tk _ => pss_one (ps_expr (pe_callS G_stripes_of (hr.mono (by decide)) (by rfl) T.g_stripes_of T.F_stripes_of.kp T.b_stripes_of (fun σ => passAt tk σ) (pa_cons (pv 0) pa_nil))))
      (fun a oe cls d pn hz hf => pss_one (ps_set (i := 1) sc__law_refused.nd rfl (Or.inl rfl) (pv 2))))
    (pss_one (ps_ret (pe_cmpR op_eq (pe_call G__law_sort (hr.mono (by decide)) (by rfl) T.g__law_sort T.F__law_sort.kp T.b__law_sort .nil pass0 (pa_cons (pv 1) pa_nil)) pe_str (nomark _)))))), ?_⟩
    refine ⟨_, rfl, v, rfl, hv, fun _ H1 S1 => ⟨true, T.xm_NoThreads, fun _ a ha => ?_, fun q => nomatch q⟩, fun a zs e ha hz => ?_⟩
    · refine ⟨_, rfl, _, rfl, a, rfl, upd_same, fun H2 S11 => ⟨rfl, ?_⟩⟩
      exact hQ _ ((S1.trans (same_new ha)).trans S11)
    · subst e
      rw [thrV_tup ha, fine_good hz] at hno
      cases hno
end
end S11

namespace S11
open PySem PySem.Spec PyProof.Rows L2 L2.Own He Sl
theorem Th2.kin {H H' : Hp} {v : V} (s : Kin H H') (h : Th2 H v) : Th2 H' v := by
  obtain ⟨h1, h2⟩ := h
  refine ⟨h1.kin s, fun a xs e ha x hx => ?_⟩
  subst e
  cases h1 with
  | lst h =>
    obtain ⟨ys, q⟩ := s.lst _ _ h
    rw [q] at ha
    cases ha
  | dic h =>
    obtain ⟨ys, q⟩ := s.dic _ _ h
    rw [q] at ha
    cases ha
  | tup h =>
    rw [s.tup _ _ h] at ha
    cases ha
    exact (h2 _ _ rfl h x hx).kin s
theorem thrV_kin {H H' : Hp} {v : V} (s : Kin H H') (h : Th H v) : thrV H' v = thrV H v := by
  cases h with
  | lst h =>
    obtain ⟨ys, q⟩ := s.lst _ _ h
    simp only [thrV, h, q]
  | tup h => simp only [thrV, h, s.tup _ _ h]
  | dic h =>
    obtain ⟨ys, q⟩ := s.dic _ _ h
    simp only [thrV, h, q]
  | _ => rfl
/-- a thing that is no threads -/
def Bad (H : Hp) (v : V) : Prop := Th2 H v ∧ thrV H v = false
theorem Bad.kin {H H' : Hp} {v : V} (s : Kin H H') (h : Bad H v) : Bad H' v := ⟨Th2.kin s h.1, (thrV_kin s h.1.1).trans h.2⟩
theorem Bad.plain {H : Hp} {v : V} (h : Th H v) (h2 : ∀ a, v = .ref a → ∀ xs, H a ≠ some (.tup xs)) : Bad H v := by
  refine ⟨⟨h, fun a xs e ha => absurd ha (h2 a e xs)⟩, ?_⟩
  refine thrV_not ?_
  cases q : tupV H v with
  | false => rfl
  | true =>
    obtain ⟨a, xs, e, ha⟩ := tupV_of q
    exact absurd ha (h2 a e xs)
theorem Bad.tup {H : Hp} {a : Addr} {xs : List V} (ha : H a = some (.tup xs)) (hx : ∀ x ∈ xs, Th H x) (hg : goodT xs = false) : Bad H (.ref a) :=
  ⟨⟨.tup ha, fun b ys e hb => by
    cases e
    rw [ha] at hb
    cases hb
    exact hx⟩, by rw [thrV_tup ha]; exact hg⟩
theorem goodT_item {xs : List V} {x : V} (hx : x ∈ xs) (h : shV x = false) : goodT xs = false := by
  unfold goodT
  have : xs.all shV = false := by
    cases q : xs.all shV with
    | false => rfl
    | true =>
      rw [List.all_eq_true.mp q x hx] at h
      cases h
  rw [this, Bool.and_false]
theorem th_strs {H : Hp} {zs : List Str} (h : ∀ z ∈ zs, isSh z = true) : ∀ x ∈ zs.map V.str, Th H x := fun x hx => by
  obtain ⟨z, hz, rfl⟩ := List.mem_map.mp hx
  exact .str z (isSh_len (h z hz))
theorem cut_strs {zs : List Str} (lo hi : Option Int) (h : ∀ z ∈ zs, isSh z = true) (H : Hp) : ∀ x ∈ cutV (zs.map V.str) lo hi, Th H x := fun x hx => by
  unfold cutV at hx
  exact th_strs h x (List.mem_of_mem_drop (List.mem_of_mem_take hx))
/-- things that are no threads, a new list -/
def spNo : Sp := fun vs H Q _ => ∃ (p t : Addr) (zs : List Str), vs = [.ref p, .ref t] ∧ PoolAt H p ∧ H t = some (.tup (zs.map V.str)) ∧ FineT zs ∧
  ∀ (H' : Hp) (l : Addr) (us : List V), But p H H' → PoolAt H' p → H l = none → H' l = some (.lst us) → us.length ≤ 100 → (∀ v ∈ us, Bad H' v) → Q (.ref l) H'
/-- a part that is no shade -/
def Odd (H : Hp) (v : V) : Prop := Th H v ∧ shV v = false
theorem free_but {p : Addr} {H H' : Hp} {l : Addr} (hp : PoolAt H' p) (b : But p H H') (h : H' l = none) : H l = none := by
  cases q : H l with
  | none => rfl
  | some o =>
    by_cases e : l = p
    · obtain ⟨n, hn⟩ := hp
      rw [e, hn] at h
      cases h
    · rw [b l o e q] at h
      cases h
section
variable {P : Program} {w : World} {K : PySem.W.Frag} {mg : Str → Option Value} {base : Heap}
def N__law_no_threads : List Str := ["_law_pool_here", "_law_words", "_law_at", "_law_odd", "_law_found", "_law_thing"]
theorem sc__law_no_threads : FnScope N__law_no_threads ["_law_pool_here", "_law_words"] (defScope s__law_no_threads) := ⟨rfl, rfl, rfl, by decide +kernel, rfl, by decide +kernel, by decide +kernel⟩
theorem ok__law_no_threads (T : Txt K mg) : FnOk P w K mg base CX0 3 (ga K "_law_no_threads") (fdOf K "_law_no_threads") ["_law_pool_here", "_law_words"] spNo := by
  have G__law_take := ok__law_take (P := P) (w := w) (base := base) T
  refine T.F__law_no_threads.ok sc__law_no_threads (fun vs H Q E h => ?_) (fun cdv A outer s H vs Q E hr h => ?_)
  · obtain ⟨p, t, zs, rfl, _⟩ := h
    rfl
  · obtain ⟨p, t, zs, rfl, hpool, ht, hz, hQ⟩ := h
    have hzl : 0 < zs.length := List.length_pos_iff.mpr hz.ne
    have hzm := hz.most
    have htp : t ≠ p := fun e => by
      obtain ⟨n, q⟩ := hpool
      rw [e, q] at ht
      cases ht
    refine ⟨_, PSs.nox (pss_cons (ps_set (i := 2) sc__law_no_threads.nd rfl (Or.inr rfl) (pe_call G__law_take (hr.mono (by decide)) (by rfl) T.g__law_take T.F__law_take.kp T.b__law_take .nil pass0 (pa_cons (pv 0) (pa_cons (pe_callB call_len (by rfl) T.f_len (by decide +kernel) (pa_cons (pv 1) pa_nil)) pa_nil))))
    (C8.pss_cut (ps_set (i := 3) sc__law_no_threads.nd rfl (Or.inl rfl) (pe_lst (pa_cons pe_str (pa_cons pe_str (pa_cons pe_str (pa_cons pe_str (pa_cons pe_non (pa_cons pe_int (pa_cons pe_bl (pa_cons (pe_tup (pa_cons pe_str pa_nil)) (pa_cons (pe_lst (pa_cons pe_str pa_nil)) (pa_cons pe_dnewK (pa_cons (pe_tup (pa_cons (pe_lst (pa_cons pe_str pa_nil)) pa_nil)) (pa_cons pe_str (pa_cons pe_str pa_nil)))))))))))))))
    (C8.pss_cut (ps_setLc (i := 4) (own := [("_law_thing", 5)]) rfl sc__law_no_threads.nd rfl rfl (sw_true rfl rfl rfl (by decide +kernel)) (pi_list (pv 3)) (blkOk_by (own := [("_law_thing", 5)]) (N := N__law_no_threads) (sc := defScope s__law_no_threads) (by decide +kernel)) (fun _ _ _ _ _ => (pg_name (i := 5) sc__law_no_threads.nd rfl (Or.inl rfl))) (fun _ _ _ _ _ => pts_nil) (fun _ _ _ _ _ => (pe_op (op_catAK (K := K) rfl) (pe_op (op_catAK (K := K) rfl) (pe_slice (sl_tupAK (K := K) rfl) (pv 1) po_none (po_some (pv 2))) (pe_tup (pa_cons (pv 5) pa_nil))) (pe_slice (sl_tupAK (K := K) rfl) (pv 1) (po_some (pe_op op_add (pv 2) pe_int)) po_none))))
    (pss_one (ps_ret (pe_op op_cat (pv 4) (pe_lst (pa_cons (pe_callTy call_list_of (by rfl) T.f_list (by decide +kernel) (pa_cons (pv 1) pa_nil)) (pa_cons (pe_tup pa_nil) (pa_cons pe_non (pa_cons pe_str (pa_cons pe_int (pa_cons pe_dnewK (pa_cons pe_bl (pa_cons (pe_ix ix_tup (pv 1) pe_int (fun _ _ => rfl)) (pa_cons (pe_slice sl_tupA (pe_op op_repT (pv 1) pe_int) po_none (po_some pe_int)) (pa_cons (pe_tup (pa_cons (pv 1) pa_nil)) pa_nil))))))))))))))))), ?_⟩
    refine ⟨_, rfl, _, rfl, _, _, rfl, Or.inr ⟨_, SqT.of ht, rfl⟩, p, _, rfl, hpool, ?_, ?_, fun d H1 d0 d1 b1 q1 => ?_⟩
    · rw [List.length_map]
      omega
    · rw [List.length_map]
      omega
    rw [List.length_map] at d1
    have ht1 := b1 _ _ htp ht
    refine ⟨fun σ H' => ∃ o us, σ = [some (.ref p), some (.ref t), some (.int d), some (.ref o), none, none] ∧ Same H1 H' ∧ H' o = some (.lst us) ∧ us.length = 13 ∧ ∀ v ∈ us, Odd H' v, ?_, fun σ H2 hM => ?_⟩
    · refine ⟨(by show 1 ≤ sizeLine; decide), fun t1 ht1 => ?_⟩
      have S1 := same_new (o := .tup [.str "a"]) ht1
      have k1 : (upd H1 t1 (.tup [.str "a"])) t1 = some (.tup [.str "a"]) := upd_same
      generalize upd H1 t1 (.tup [.str "a"]) = G1 at S1 k1
      refine ⟨(by show 1 ≤ sizeLine; decide), fun l1 hl1 => ?_⟩
      have N2 := same_new (o := .lst [.str "a"]) hl1
      have k2 : (upd G1 l1 (.lst [.str "a"])) l1 = some (.lst [.str "a"]) := upd_same
      generalize upd G1 l1 (.lst [.str "a"]) = G2 at N2 k2
      intro d1 hd1
      have N3 := same_new (o := .dK []) hd1
      have k3 : (upd G2 d1 (.dK [])) d1 = some (.dK []) := upd_same
      generalize upd G2 d1 (.dK []) = G3 at N3 k3
      refine ⟨(by show 1 ≤ sizeLine; decide), fun l2 hl2 => ?_⟩
      have N4 := same_new (o := .lst [.str "a"]) hl2
      have k4 : (upd G3 l2 (.lst [.str "a"])) l2 = some (.lst [.str "a"]) := upd_same
      generalize upd G3 l2 (.lst [.str "a"]) = G4 at N4 k4
      refine ⟨(by show 1 ≤ sizeLine; decide), fun t2 ht2 => ?_⟩
      have N5 := same_new (o := .tup [.ref l2]) ht2
      have k5 : (upd G4 t2 (.tup [.ref l2])) t2 = some (.tup [.ref l2]) := upd_same
      generalize upd G4 t2 (.tup [.ref l2]) = G5 at N5 k5
      refine ⟨(by show 13 ≤ sizeLine; decide), fun o ho => ?_⟩
      have N6 := same_new (o := .lst [.str "", .str "abcd", .str "A", .str "a1", .non, .int 0, .bl true, .ref t1, .ref l1, .ref d1, .ref t2, .str "a ", .str " "]) ho
      refine ⟨o, _, rfl, ((((S1.trans N2).trans N3).trans N4).trans N5).trans N6, upd_same, rfl, fun v hv => ?_⟩
      simp only [List.mem_cons, List.not_mem_nil, or_false] at hv
      rcases hv with rfl | rfl | rfl | rfl | rfl | rfl | rfl | rfl | rfl | rfl | rfl | rfl | rfl
      · exact ⟨.str _ (by decide +kernel), by decide +kernel⟩
      · exact ⟨.str _ (by decide +kernel), by decide +kernel⟩
      · exact ⟨.str _ (by decide +kernel), by decide +kernel⟩
      · exact ⟨.str _ (by decide +kernel), by decide +kernel⟩
      · exact ⟨.non, rfl⟩
      · exact ⟨.int _, rfl⟩
      · exact ⟨.bl _, rfl⟩
      · exact ⟨.tup (N6 _ _ (N5 _ _ (N4 _ _ (N3 _ _ (N2 _ _ k1))))), rfl⟩
      · exact ⟨.lst (N6 _ _ (N5 _ _ (N4 _ _ (N3 _ _ k2)))), rfl⟩
      · exact ⟨.dic (N6 _ _ (N5 _ _ (N4 _ _ k3))), rfl⟩
      · exact ⟨.tup (N6 _ _ k5), rfl⟩
      · exact ⟨.str _ (by decide +kernel), by decide +kernel⟩
      · exact ⟨.str _ (by decide +kernel), by decide +kernel⟩
    · obtain ⟨o, us, rfl, S11, ho, hul, hus⟩ := hM
      have ht2 := S11 _ _ ht1
      refine ⟨fun σ H' => ∃ f us, σ = [some (.ref p), some (.ref t), some (.int d), some (.ref o), some (.ref f), none] ∧ Same H2 H' ∧ H' f = some (.lst us) ∧ us.length = 13 ∧ ∀ v ∈ us, Bad H' v, ?_, fun σ H3 hM => ?_⟩
      · refine ⟨_, rfl, o, rfl, ⟨_, SqL.of ho⟩, fun D hD => lc_it (walk_list (xs := us)) (fun i H' => ∃ acc, LcAt H2 D H' acc ∧ acc.length = i ∧ ∀ v ∈ acc, Bad H' v) ⟨[], LcAt.start hD, rfl, fun _ h => nomatch h⟩ (fun i H' _ hP => ?_) (fun i x Ha Hb hi hP hy => ?_) fun Ha hP => ?_⟩
        · obtain ⟨acc, hL, _⟩ := hP
          exact SqL.of (hL.same _ _ ho)
        · obtain ⟨acc, hL, hal, hab⟩ := hP
          obtain ⟨rfl, hx⟩ := hy
          obtain ⟨hx1, hx2⟩ := hus x (List.mem_of_getElem? hx)
          have htb := hL.same _ _ ht2
          have hc : ∀ lo hi, (cutV (zs.map V.str) lo hi).length ≤ 240 := fun lo hi => by
            have h1 := cutV_length (zs.map V.str) lo hi
            rw [List.length_map] at h1
            omega
          refine ⟨rfl, _, rfl, _, rfl, _, rfl, slA_of htb fun Hc r Sc hr1 => ?_⟩
          refine ⟨_, rfl, (by show 1 ≤ sizeLine; decide), fun t5 ht5 => catA_of (same_new ht5 _ _ hr1) upd_same ?_ fun Hd r2 Sd hr2 => ?_⟩
          · have := hc none (some d)
            exact smallE (by show _ + 1 ≤ _; omega)
          have S5 := (Sc.trans (same_new ht5)).trans Sd
          refine ⟨_, rfl, _, rfl, _, _, rfl, rfl, _, rfl, ?_⟩
          dsimp only [tNoPart]
          refine slA_of (S5 _ _ htb) fun He r3 Se hr3 => ?_
          refine catA_of (Se _ _ hr2) hr3 ?_ fun Hf r4 Sf hr4 => ?_
          · have h1 := hc none (some d)
            have h2 := hc (some (d + 1)) none
            rw [List.length_append]
            exact smallE (by show _ + 1 + _ ≤ _; omega)
          have S6 := (S5.trans Se).trans Sf
          have hL6 := hL.keep S6
          refine ⟨acc, hL6.it, small (by omega), acc ++ [.ref r4], hL6.push, by simp [hal], fun v hv => ?_⟩
          rcases List.mem_append.mp hv with q | q
          · exact ((hab v q).kin (Kin.of S6)).kin (Kin.put hL6.it)
          · rw [List.mem_singleton.mp q]
            refine Bad.kin (Kin.put hL6.it) (Bad.tup hr4 (fun y hy => ?_) (goodT_item (x := x) (by simp) hx2))
            rcases List.mem_append.mp hy with hy | hy
            · rcases List.mem_append.mp hy with hy | hy
              · exact cut_strs _ _ hz.sh _ y hy
              · rw [List.mem_singleton.mp hy]
                exact (hx1.same hL.same).same S6
            · exact cut_strs _ _ hz.sh _ y hy
        · obtain ⟨acc, hL, hal, hab⟩ := hP
          exact ⟨D, acc, rfl, hL.same, hL.it, by rw [hal, hul], hab⟩
      · obtain ⟨f, ws, rfl, S3, hf, hwl, hws⟩ := hM
        have ht3 := S3 _ _ ht2
        refine ⟨_, rfl, _, rfl, t, _, rfl, .inr (SqT.of ht3), fun c1 hc1 => ?_⟩
        have S1 := same_new (o := .lst (zs.map V.str)) hc1
        have k1 : (upd H3 c1 (.lst (zs.map V.str))) c1 = some (.lst (zs.map V.str)) := upd_same
        generalize upd H3 c1 (.lst (zs.map V.str)) = G1 at S1 k1
        refine ⟨(by show 0 ≤ sizeLine; decide), fun c2 hc2 => ?_⟩
        have N2 := same_new (o := .tup []) hc2
        have k2 : (upd G1 c2 (.tup [])) c2 = some (.tup []) := upd_same
        generalize upd G1 c2 (.tup []) = G2 at N2 k2
        intro c3 hc3
        have N3 := same_new (o := .dK []) hc3
        have k3 : (upd G2 c3 (.dK [])) c3 = some (.dK []) := upd_same
        generalize upd G2 c3 (.dK []) = G3 at N3 k3
        have S4 := (S1.trans N2).trans N3
        have ht4 := S4 _ _ ht3
        obtain ⟨z0, hz0, hz0m⟩ := strs_at (zs := zs) (d := 0) (by decide) (by omega)
        refine ⟨_, rfl, t, _, _, _, rfl, rfl, SqT.of ht4, hz0, _, rfl, t, 241, _, rfl, rfl, SqT.of ht4, ?_, by decide, by decide, ?_, fun c4 hc4 => ?_⟩
        · intro e
          rw [List.map_eq_nil_iff] at e
          exact hz.ne e
        · rw [List.length_map]
          omega
        have N4 := same_new (o := .tup (List.replicate (241 : Int).toNat (zs.map V.str)).flatten) hc4
        have k4 : (upd G3 c4 (.tup (List.replicate (241 : Int).toNat (zs.map V.str)).flatten)) c4 = some (.tup (List.replicate (241 : Int).toNat (zs.map V.str)).flatten) := upd_same
        generalize upd G3 c4 (.tup (List.replicate (241 : Int).toNat (zs.map V.str)).flatten) = G4 at N4 k4
        refine ⟨_, rfl, slA_of k4 fun G5 r5 N5 k5 => ?_⟩
        have S5 := (S4.trans N4).trans N5
        refine ⟨_, rfl, (by show 1 ≤ sizeLine; decide), fun c6 hc6 => ?_⟩
        have N6 := same_new (o := .tup [.ref t]) hc6
        have k6 : (upd G5 c6 (.tup [.ref t])) c6 = some (.tup [.ref t]) := upd_same
        generalize upd G5 c6 (.tup [.ref t]) = G6 at N6 k6
        refine ⟨(by show 10 ≤ sizeLine; decide), fun c7 hc7 => ?_⟩
        have N7 := same_new (o := .lst [.ref c1, .ref c2, .non, .str "", .int 0, .ref c3, .bl true, .str z0, .ref r5, .ref c6]) hc7
        have k7 : (upd G6 c7 (.lst [.ref c1, .ref c2, .non, .str "", .int 0, .ref c3, .bl true, .str z0, .ref r5, .ref c6])) c7 = some (.lst [.ref c1, .ref c2, .non, .str "", .int 0, .ref c3, .bl true, .str z0, .ref r5, .ref c6]) := upd_same
        generalize upd G6 c7 (.lst [.ref c1, .ref c2, .non, .str "", .int 0, .ref c3, .bl true, .str z0, .ref r5, .ref c6]) = G7 at N7 k7
        have S7 := (S5.trans N6).trans N7
        refine ⟨f, c7, _, _, rfl, rfl, S7 _ _ hf, k7, ?_, fun l hl => ?_⟩
        · exact smallE (by show _ + 10 ≤ _; omega)
        have N8 := same_new (o := .lst (ws ++ [.ref c1, .ref c2, .non, .str "", .int 0, .ref c3, .bl true, .str z0, .ref r5, .ref c6])) hl
        have S8 := S7.trans N8
        have hB := b1.trans (But.of ((S11.trans S3).trans S8))
        have hl' : H l = none := free_but (hp := ((q1.same S11).same S3).same S7) (b1.trans (But.of ((S11.trans S3).trans S7))) hl
        refine hQ _ l _ hB (((q1.same S11).same S3).same S8) hl' upd_same ?_ fun v hv => ?_
        · rw [List.length_append, hwl]
          show 13 + 10 ≤ 100
          decide
        · rcases List.mem_append.mp hv with q | q
          · exact (hws v q).kin (Kin.of S8)
          · simp only [List.mem_cons, List.not_mem_nil, or_false] at q
            have two := (((N4.trans N5).trans N6).trans N7).trans N8
            rcases q with rfl | rfl | rfl | rfl | rfl | rfl | rfl | rfl | rfl | rfl
            · have k := two _ _ (N3 _ _ (N2 _ _ k1))
              exact Bad.plain (.lst k) fun a e xs ha => by
                cases e
                rw [k] at ha
                cases ha
            · exact Bad.tup (two _ _ (N3 _ _ k2)) (fun _ h => nomatch h) rfl
            · exact Bad.plain .non fun _ e => nomatch e
            · exact Bad.plain (.str _ (by decide +kernel)) fun _ e => nomatch e
            · exact Bad.plain (.int _) fun _ e => nomatch e
            · have k := two _ _ k3
              exact Bad.plain (.dic k) fun a e xs ha => by
                cases e
                rw [k] at ha
                cases ha
            · exact Bad.plain (.bl _) fun _ e => nomatch e
            · exact Bad.plain (.str _ (isSh_len (hz.sh _ hz0m))) fun _ e => nomatch e
            · refine Bad.tup ((N6.trans N7).trans N8 _ _ k5) (fun y hy => ?_) ?_
              · unfold cutV at hy
                have hy := List.mem_of_mem_drop (List.mem_of_mem_take hy)
                obtain ⟨m, hm, hy⟩ := List.mem_flatten.mp hy
                rw [List.eq_of_mem_replicate hm] at hy
                exact th_strs hz.sh y hy
              · have hlen : (cutV (List.replicate (241 : Int).toNat (zs.map V.str)).flatten none (some 241)).length = 241 := by
                  have h1 : (List.replicate (241 : Int).toNat (zs.map V.str)).flatten.length = 241 * zs.length := by
                    rw [List.length_flatten, List.map_replicate, List.sum_replicate_nat, List.length_map]
                    rfl
                  unfold cutV
                  rw [h1, List.length_take, List.length_drop, h1, HT.sIx_none, show (some 241 : Option Int) = some ((241 : Nat) : Int) from rfl, HT.sIx_nat]
                  omega
                unfold goodT
                rw [hlen]
                rfl
            · exact Bad.tup (N7.trans N8 _ _ k6) (fun y hy => by
                rw [List.mem_singleton.mp hy]
                exact .tup (S8 _ _ ht3)) (goodT_item (x := .ref t) (by simp) rfl)
end
end S11

namespace S11
open PySem PySem.Spec PyProof.Rows L2 L2.Own He Sl
def spLaw (K : PySem.W.Frag) : Sp := fun vs H Q _ => ∃ (a : Addr) (ns : List Int), vs = [.ref a] ∧ SqL K H a (ns.map V.int) ∧ ∀ H', Q (.bl true) H'
theorem total_le {k : Nat} : ∀ {m : List (Str × Nat)}, (∀ s ∈ m, s.2 ≤ k) → total m ≤ m.length * k
  | [], _ => Nat.zero_le _
  | s :: m, h => by
    have h1 := h s List.mem_cons_self
    have h2 := total_le (m := m) fun t ht => h t (List.mem_cons_of_mem _ ht)
    show s.2 + total m ≤ (m.length + 1) * k
    rw [Nat.succ_mul]
    omega
theorem three_at {x y z d : Int} (h0 : 0 ≤ d) (h1 : d < 3) : ∃ v, atI [V.int x, V.int y, V.int z] d = some (.int v) ∧ (v = x ∨ v = y ∨ v = z) := by
  have key : ∀ n : Nat, n < 3 → ∃ v, ([V.int x, V.int y, V.int z] : List V)[n]? = some (.int v) ∧ (v = x ∨ v = y ∨ v = z) := fun n hn => by
    match n, hn with
    | 0, _ => exact ⟨x, rfl, .inl rfl⟩
    | 1, _ => exact ⟨y, rfl, .inr (.inl rfl)⟩
    | 2, _ => exact ⟨z, rfl, .inr (.inr rfl)⟩
  obtain ⟨v, e, q⟩ := key d.toNat (by omega)
  refine ⟨v, ?_, q⟩
  have := atI_nat e
  rw [Int.toNat_of_nonneg h0] at this
  exact this
/-- what stands while one cell's things are drawn -/
structure At (p l : Addr) (zs : List Str) (H2 H' : Hp) : Prop where
  but : But p H2 H'
  pool : PoolAt H' p
  sh : H' l = some (.lst (zs.map V.str))
theorem At.same {p l : Addr} {zs : List Str} {H2 H' H3 : Hp} (h : At p l zs H2 H') (s : Same H' H3) : At p l zs H2 H3 := ⟨h.but.trans (But.of s), h.pool.same s, s _ _ h.sh⟩
theorem At.draw {p l : Addr} {zs : List Str} {H2 H' H3 : Hp} (h : At p l zs H2 H') (n : l ≠ p) (s : But p H' H3) (q : PoolAt H3 p) : At p l zs H2 H3 := ⟨h.but.trans s, q, s _ _ n h.sh⟩
section
variable {P : Program} {w : World} {K : PySem.W.Frag} {mg : Str → Option Value} {base : Heap}
def N_law : List Str := ["_law_script", "_law_k", "_law_pool_here", "_law_shades", "_law_stripes", "_law_due", "_law_found", "_law_size", "_law_words", "_law_turn", "_law_thing"]
theorem sc_law : FnScope N_law ["_law_script"] (defScope s_law) := ⟨rfl, rfl, rfl, by decide +kernel, rfl, by decide +kernel, by decide +kernel⟩
theorem ok_law (T : Txt K mg) : FnOk P w K mg base CX0 6 (ga K "law") (fdOf K "law") ["_law_script"] (spLaw K) := by
  have G__law_take := ok__law_take (P := P) (w := w) (base := base) T
  have G__law_pool := ok__law_pool (P := P) (w := w) (base := base) T
  have G__law_some_shades := ok__law_some_shades (P := P) (w := w) (base := base) T
  have G__law_drawn_stripes := ok__law_drawn_stripes (P := P) (w := w) (base := base) T
  have G__law_threads := ok__law_threads (P := P) (w := w) (base := base) T
  have G_threads_of := ok_threads_of (P := P) (w := w) (base := base) T
  have G_stripes_of := ok_stripes_of (P := P) (w := w) (base := base) T
  have G__law_are_fewest := ok__law_are_fewest (P := P) (w := w) (base := base) T
  have G__law_no_threads := ok__law_no_threads (P := P) (w := w) (base := base) T
  have G__law_refused := ok__law_refused (P := P) (w := w) (base := base) T
  refine T.F_law.ok sc_law (fun vs H Q E h => ?_) (fun cdv A outer s H vs Q E hr h => ?_)
  · obtain ⟨a, ns, rfl, _⟩ := h
    rfl
  · obtain ⟨a, ns, rfl, ha, hQ⟩ := h
    refine ⟨_, PSs.nox (pss_cons (ps_for PassesOwn.never rfl (pi_range1 (by rfl) T.f_range (pa_cons (pe_callB (call_max2 rfl) (by rfl) T.f_max (by decide +kernel) (pa_cons pe_int (pa_cons (pe_callB (call_min2 rfl) (by rfl) T.f_min (by decide +kernel) (pa_cons (pe_callB call_len (by rfl) T.f_len (by decide +kernel) (pa_cons (pv 0) pa_nil)) (pa_cons pe_int pa_nil))) pa_nil))) pa_nil)) (pg_name (i := 1) sc_law.nd rfl (Or.inl rfl))
    (C8.pss_cut (ps_set (i := 2) sc_law.nd rfl (Or.inr rfl) (pe_call G__law_pool (hr.mono (by decide)) (by rfl) T.g__law_pool T.F__law_pool.kp T.b__law_pool .nil pass0 (pa_cons (pv 0) (pa_cons (pv 1) pa_nil))))
     (C8.pss_cut (ps_set (i := 3) sc_law.nd rfl (Or.inr rfl) (pe_call G__law_some_shades (hr.mono (by decide)) (by rfl) T.g__law_some_shades T.F__law_some_shades.kp T.b__law_some_shades .nil pass0 (pa_cons (pv 2) (pa_cons (pe_op op_add pe_int (pe_call G__law_take (hr.mono (by decide)) (by rfl) T.g__law_take T.F__law_take.kp T.b__law_take .nil pass0 (pa_cons (pv 2) (pa_cons pe_int pa_nil)))) pa_nil))))
     (C8.pss_cut (ps_set (i := 4) sc_law.nd rfl (Or.inl rfl) (pe_call G__law_drawn_stripes (hr.mono (by decide)) (by rfl) T.g__law_drawn_stripes T.F__law_drawn_stripes.kp T.b__law_drawn_stripes .nil pass0 (pa_cons (pv 2) (pa_cons (pv 3) (pa_cons pe_int (pa_cons (pe_ix ix_list (pe_lst (pa_cons pe_int (pa_cons pe_int (pa_cons pe_int pa_nil)))) (pe_call G__law_take (hr.mono (by decide)) (by rfl) T.g__law_take T.F__law_take.kp T.b__law_take .nil pass0 (pa_cons (pv 2) (pa_cons pe_int pa_nil))) (fun _ _ => rfl)) pa_nil))))))
     (C8.pss_cut (ps_set (i := 5) sc_law.nd rfl (Or.inl rfl) (pe_callTy call_tuple_of (by rfl) T.f_tuple (by decide +kernel) (pa_cons (pe_call G__law_threads (hr.mono (by decide)) (by rfl) T.g__law_threads T.F__law_threads.kp T.b__law_threads .nil pass0 (pa_cons (pv 4) pa_nil)) pa_nil)))
     (C8.pss_cut (ps_set (i := 6) sc_law.nd rfl (Or.inl rfl) (pe_call G_threads_of (hr.mono (by decide)) (by rfl) T.g_threads_of T.F_threads_of.kp T.b_threads_of .nil pass0 (pa_cons (pv 4) pa_nil)))
     (C8.pss_cut (ps_if (PW.pt (pw_or (pt_not (pt_val (pe_callB call_isi (by rfl) T.f_isinstance (by decide +kernel) (pa_cons (pv 6) (pa_cons (pe_bltn (v := .ty "tuple") (by rfl) T.f_tuple (by decide +kernel) rfl) pa_nil))))) (pw_or (pt_cmpR (op_neD hr.units) (pv 6) (pv 5) (nomark _)) (pw_or1 (pt_not (pt_val (pe_call G__law_are_fewest (hr.mono (by decide)) (by rfl) T.g__law_are_fewest T.F__law_are_fewest.kp T.b__law_are_fewest .nil pass0 (pa_cons (pv 5) (pa_cons (pe_call G_stripes_of (hr.mono (by decide)) (by rfl) T.g_stripes_of T.F_stripes_of.kp T.b_stripes_of .nil passL (pa_cons (pv 6) pa_nil)) pa_nil)))))))))
     (pss_one (ps_ret pe_bl))
     pss_nil)
     (C8.pss_cut (ps_set (i := 7) sc_law.nd rfl (Or.inl rfl) (pe_ix ix_list (pe_lst (pa_cons (pe_op op_add pe_int (pe_call G__law_take (hr.mono (by decide)) (by rfl) T.g__law_take T.F__law_take.kp T.b__law_take .nil pass0 (pa_cons (pv 2) (pa_cons pe_int pa_nil)))) (pa_cons (pe_op op_add pe_int (pe_call G__law_take (hr.mono (by decide)) (by rfl) T.g__law_take T.F__law_take.kp T.b__law_take .nil pass0 (pa_cons (pv 2) (pa_cons pe_int pa_nil)))) (pa_cons pe_int pa_nil)))) (pe_op op_fdiv (pe_call G__law_take (hr.mono (by decide)) (by rfl) T.g__law_take T.F__law_take.kp T.b__law_take .nil pass0 (pa_cons (pv 2) (pa_cons pe_int pa_nil))) pe_int) (fun _ _ => rfl)))
     (C8.pss_cut (ps_set (i := 8) sc_law.nd rfl (Or.inl rfl) (pe_callTy call_tuple_of (by rfl) T.f_tuple (by decide +kernel) (pa_cons (pe_lc (own := [("_law_turn", 9)]) rfl sc_law.nd (pi_range1 (by rfl) T.f_range (pa_cons (pv 7) pa_nil)) (blkOk_by (own := [("_law_turn", 9)]) (N := N_law) (sc := defScope s_law) (by decide +kernel)) (fun _ _ _ _ _ => (pg_name (i := 9) sc_law.nd rfl (Or.inl rfl))) (fun _ _ _ _ _ => pts_nil) (fun _ _ _ _ _ => (pe_ix (ix_listK (K := K) rfl) (pv 3) (pe_call G__law_take (hr.mono (by decide)) (by rfl) T.g__law_take T.F__law_take.kp T.b__law_take .nil pass0 (pa_cons (pv 2) (pa_cons (pe_callB (call_lenK (K := K) rfl) (by rfl) T.f_len (by decide +kernel) (pa_cons (pv 3) pa_nil)) pa_nil))) (fun _ _ => rfl)))) pa_nil)))
     (C8.pss_cut (ps_for PassesOwn.never rfl (pi_range1 (by rfl) T.f_range (pa_cons pe_int pa_nil)) (pg_name (i := 9) sc_law.nd rfl (Or.inl rfl))
     (pss_one (ps_if (PW.pt (pw_or (pt_not (pt_val (pe_call G__law_are_fewest (hr.mono (by decide)) (by rfl) T.g__law_are_fewest T.F__law_are_fewest.kp T.b__law_are_fewest .nil pass0 (pa_cons (pv 8) (pa_cons (pe_call G_stripes_of (hr.mono (by decide)) (by rfl) T.g_stripes_of T.F_stripes_of.kp T.b_stripes_of .nil passL (pa_cons (pv 8) pa_nil)) pa_nil))))) (pw_or1 (pt_cmpR (op_neD hr.units) (pe_call G_threads_of (hr.mono (by decide)) (by rfl) T.g_threads_of T.F_threads_of.kp T.b_threads_of .nil pass0 (pa_cons (pe_call G_stripes_of (hr.mono (by decide)) (by rfl) T.g_stripes_of T.F_stripes_of.kp T.b_stripes_of .nil passL (pa_cons (pv 8) pa_nil)) pa_nil)) (pv 8) (nomark _)))))
      (pss_one (ps_ret pe_bl))
      pss_nil)))
     (pss_one (ps_if (pt_not (pt_val (pe_callB (cr_all rfl) (by rfl) T.f_all (by decide +kernel) (pa_cons (pe_lc (own := [("_law_thing", 10)]) rfl sc_law.nd (pi_list (pe_call G__law_no_threads (hr.mono (by decide)) (by rfl) T.g__law_no_threads T.F__law_no_threads.kp T.b__law_no_threads .nil pass0 (pa_cons (pv 2) (pa_cons (pv 8) pa_nil)))) (blkOk_by (own := [("_law_thing", 10)]) (N := N_law) (sc := defScope s_law) (by decide +kernel)) (fun _ _ _ _ _ => (pg_name (i := 10) sc_law.nd rfl (Or.inl rfl))) (fun _ _ _ _ _ => pts_nil) (fun _ _ _ _ _ => (pe_call G__law_refused (hr.mono (by decide)) (by rfl) T.g__law_refused T.F__law_refused.kp T.b__law_refused .nil pass0 (pa_cons (pv 10) pa_nil)))) pa_nil))))
     (pss_one (ps_ret pe_bl))
     pss_nil))))))))))))
    (pss_one (ps_ret pe_bl))), ?_⟩
    refine ⟨_, rfl, _, _, rfl, Or.inl ⟨_, ha, rfl⟩, _, _, rfl, _, _, rfl, ?_⟩
    refine ⟨_, rfl, ?_, ?_, ?_⟩
    · split <;> split <;> omega
    · split <;> split <;> omega
    refine for_it walk_range (fun i σ H' => ∃ u1 u2 u3 u4 u5 u6 u7 u8 u9, σ = [some (.ref a), u1, u2, u3, u4, u5, u6, u7, u8, u9, none] ∧ Same H H') ⟨none, none, none, none, none, none, none, none, none, rfl, Same.refl H⟩ (fun _ _ _ _ _ => True.intro) (fun i x σ H0 H1 hi hP hy => ?_) fun σ H1 hP => ?_
    · obtain ⟨u1, u2, u3, u4, u5, u6, u7, u8, u9, rfl, S1⟩ := hP
      obtain ⟨rfl, rfl⟩ := hy
      have hk : i < 1000 := by
        have : ((if (if (12 : Int) < ((ns.map V.int).length : Nat) then (12 : Int) else ((ns.map V.int).length : Nat)) > 2 then (if (12 : Int) < ((ns.map V.int).length : Nat) then (12 : Int) else ((ns.map V.int).length : Nat)) else 2) : Int) ≤ 12 := by
          split <;> split <;> omega
        omega
      refine ⟨fun σ H' => ∃ p, σ = [some (.ref a), some (.int (0 + (i : Nat))), some (.ref p), u3, u4, u5, u6, u7, u8, u9, none] ∧ Same H1 H' ∧ H1 p = none ∧ PoolAt H' p, ?_, fun σ H2 hM => ?_⟩
      · refine ⟨_, rfl, _, rfl, a, ns, _, rfl, S1.seq ha, by omega, by omega, fun H2 p S11 hp q2 => ?_⟩
        exact ⟨p, rfl, S11, hp, q2⟩
      obtain ⟨p, rfl, S11, hp, q2⟩ := hM
      refine ⟨fun σ H' => ∃ l zs, σ = [some (.ref a), some (.int (0 + (i : Nat))), some (.ref p), some (.ref l), u4, u5, u6, u7, u8, u9, none] ∧ At p l zs H2 H' ∧ l ≠ p ∧ zs ≠ [] ∧ zs.length ≤ 5 ∧ ∀ z ∈ zs, isSh z = true, ?_, fun σ H3 hM => ?_⟩
      · refine ⟨_, rfl, _, rfl, p, 5, rfl, q2, by decide, by decide, fun d H3 d0 d1 b3 q3 => ?_⟩
        refine ⟨_, _, rfl, rfl, p, _, rfl, q3, by omega, by omega, fun H4 l zs b4 q4 hl hl4 hzl hsh hnd => ?_⟩
        refine ⟨l, zs, rfl, ⟨b3.trans b4, q4, hl4⟩, fun e => ?_, fun e => ?_, by omega, hsh⟩
        · obtain ⟨n, hn⟩ := q3
          rw [e, hn] at hl
          cases hl
        · rw [e] at hzl
          have : 0 = (1 + d).toNat := hzl
          omega
      obtain ⟨l, zs, rfl, A3, hlp, hz0, hz5, hzs⟩ := hM
      have hzl : 0 < zs.length := List.length_pos_iff.mpr hz0
      refine ⟨fun σ H' => ∃ t ps m, σ = [some (.ref a), some (.int (0 + (i : Nat))), some (.ref p), some (.ref l), some (.ref t), u5, u6, u7, u8, u9, none] ∧ At p l zs H2 H' ∧ H' t = some (.tup ps) ∧ Prs H' ps m ∧ Fine m, ?_, fun σ H4 hM => ?_⟩
      · refine ⟨_, rfl, _, rfl, (by show 3 ≤ sizeLine; decide), fun c hc => ?_⟩
        have A4 := A3.same (same_new (o := .lst [.int 3, .int 3, .int 20]) hc)
        have hcp : c ≠ p := fun e => by
          obtain ⟨n, hn⟩ := A3.pool
          rw [e, hn] at hc
          cases hc
        refine ⟨_, rfl, p, 3, rfl, A4.pool, by decide, by decide, fun d H4 d0 d1 b4 q4 => ?_⟩
        have A5 := A4.draw hlp b4 q4
        obtain ⟨wv, hwv, hw⟩ := three_at (x := 3) (y := 3) (z := 20) d0 d1
        refine ⟨c, _, _, _, rfl, rfl, SqL.of (b4 _ _ hcp upd_same), hwv, p, l, 12, wv, zs, rfl, q4, hlp, A5.sh, hz0, by omega, hzs, by decide, by decide, by omega, by omega, fun H5 t ps m b5 q5 ht5 ht6 hp5 hm0 hml hm => ?_⟩
        refine ⟨t, ps, m, rfl, A5.draw hlp b5 q5, ht6, hp5, hm0, fun s hs => (hm s hs).1, fun s hs => (hm s hs).2.1, ?_⟩
        have h1 := total_le (k := 20) (m := m) fun s hs => by
          have := (hm s hs).2.2
          omega
        have h2 : m.length * 20 ≤ 12 * 20 := Nat.mul_le_mul_right 20 (by have : (12 : Int).toNat = 12 := rfl; omega)
        omega
      obtain ⟨t, ps, m, rfl, A4, ht4, hp4, hf⟩ := hM
      have hfm := hf.most
      refine ⟨fun σ H' => ∃ du, σ = [some (.ref a), some (.int (0 + (i : Nat))), some (.ref p), some (.ref l), some (.ref t), some (.ref du), u6, u7, u8, u9, none] ∧ Same H4 H' ∧ H' du = some (.tup ((expand m).map V.str)), ?_, fun σ H5 hM => ?_⟩
      · refine ⟨_, rfl, t, ps, m, rfl, ht4, hp4, by omega, fun H5 r S5 hr5 hr6 => ?_⟩
        refine ⟨r, _, rfl, .inl ⟨SqL.of hr6, fun du hdu => ?_⟩⟩
        exact ⟨du, rfl, S5.trans (same_new hdu), upd_same⟩
      obtain ⟨du, rfl, S5, hdu⟩ := hM
      refine ⟨fun σ H' => ∃ fo, σ = [some (.ref a), some (.int (0 + (i : Nat))), some (.ref p), some (.ref l), some (.ref t), some (.ref du), some (.ref fo), u7, u8, u9, none] ∧ Same H5 H' ∧ H' fo = some (.tup ((expand m).map V.str)), ?_, fun σ H6 hM => ?_⟩
      · refine ⟨_, rfl, t, ps, m, rfl, S5 _ _ ht4, hp4.mono (Tups.of S5), hf, fun H6 fo S6 hfo hfo2 => ?_⟩
        exact ⟨fo, rfl, S6, hfo2⟩
      obtain ⟨fo, rfl, S6, hfo⟩ := hM
      have hex : FineT (expand m) := by
        have hl : (expand m).length = total m := expand_length m
        have h1 := hf.pos.length_le
        have h2 : 0 < m.length := List.length_pos_iff.mpr hf.ne
        refine ⟨fun e => ?_, expand_sh hf.sh, by omega⟩
        rw [e] at hl
        have : 0 = total m := hl
        omega
      -- stripes_of of threads, and that these are the fewest
      have few : ∀ (zs : List Str), FineT zs → total (groups zs) ≤ 10000 ∧ Apart (groups zs) ∧ Pos (groups zs) ∧ (∀ s ∈ groups zs, isSh s.1 = true) ∧ Fine (groups zs) := fun zs hz => by
        have h1 := groups_total zs
        have h2 := hz.most
        refine ⟨by omega, groups_apart zs, groups_pos zs, fun s hs => hz.sh _ (groups_mem hs), ⟨groups_nonempty hz.ne, fun s hs => hz.sh _ (groups_mem hs), groups_pos zs, by omega⟩⟩
      have th2 : ∀ {H' : Hp} {b : Addr} {zs : List Str}, H' b = some (.tup (zs.map V.str)) → FineT zs → Th2 H' (.ref b) ∧ thrV H' (.ref b) ≠ false := fun {H' b zs} hb hz => by
        refine ⟨⟨.tup hb, fun c xs e hc x hx => ?_⟩, ?_⟩
        · cases e
          rw [hb] at hc
          cases hc
          exact th_strs hz.sh x hx
        · rw [thrV_tup hb, fine_good hz]
          exact Bool.noConfusion
      refine ⟨fun σ H' => σ = [some (.ref a), some (.int (0 + (i : Nat))), some (.ref p), some (.ref l), some (.ref t), some (.ref du), some (.ref fo), u7, u8, u9, none] ∧ Same H6 H', ?_, fun σ H7 hM => ?_⟩
      · have hdu6 := S6 _ _ hdu
        refine ⟨_, rfl, _, _, _, _, _, rfl, .ty _, .base (.tup hfo), kit_ty (r := true) (by decide +kernel), _, rfl, iteF ?_⟩
        refine ⟨_, rfl, _, rfl, .tuple ((expand m).map PyData.str), .tuple ((expand m).map PyData.str), .tup (SqT.of hfo) (dp_strs _ _ _), .tup (SqT.of hdu6) (dp_strs _ _ _), shaped_strsT hex.sh, shaped_strsT hex.sh, _, rfl, ?_⟩
        rw [eqv_strsT hex.sh]
        refine iteF ?_
        obtain ⟨e1, e2, e3, e4, e5⟩ := few _ hex
        obtain ⟨w1, w2⟩ := th2 hfo hex
        refine ⟨_, rfl, _, rfl, .ref fo, rfl, w1, fun h => absurd h w2, fun b xs e hb hx H7 st qs S7 hst hst2 hqs => ?_⟩
        cases e
        have ex : xs = expand m := by
          rw [hfo] at hb
          have h1 := HO.tup.inj (Option.some.inj hb)
          exact (List.map_inj_right (fun _ _ h => V.str.inj h)).mp h1.symm
        subst ex
        refine ⟨du, st, qs, groups (expand m), rfl, ?_, hst2, hqs, e2, e3, e4, e1, fun H8 S8 => ?_⟩
        · rw [groups_expand]
          exact S7 _ _ hdu6
        · refine ⟨_, rfl, iteF ?_⟩
          exact ⟨rfl, S7.trans S8⟩
      obtain ⟨rfl, S7⟩ := hM
      have A7 : At p l zs H2 H7 := ((A4.same S5).same S6).same S7
      refine ⟨fun σ H' => ∃ n : Int, σ = [some (.ref a), some (.int (0 + (i : Nat))), some (.ref p), some (.ref l), some (.ref t), some (.ref du), some (.ref fo), some (.int n), u8, u9, none] ∧ At p l zs H2 H' ∧ 1 ≤ n ∧ n ≤ 240, ?_, fun σ H8 hM => ?_⟩
      · refine ⟨_, rfl, p, 12, rfl, A7.pool, by decide, by decide, fun d H8 d0 d1 b8 q8 => ?_⟩
        have A8 := A7.draw hlp b8 q8
        refine ⟨_, _, rfl, rfl, _, rfl, p, 60, rfl, A8.pool, by decide, by decide, fun e H9 e0 e1 b9 q9 => ?_⟩
        have A9 := A8.draw hlp b9 q9
        refine ⟨_, _, rfl, rfl, (by show 3 ≤ sizeLine; decide), fun c hc => ?_⟩
        have A10 := A9.same (same_new (o := .lst [.int (1 + d), .int (1 + e), .int 240]) hc)
        have hcp : c ≠ p := fun e => by
          obtain ⟨n, hn⟩ := A9.pool
          rw [e, hn] at hc
          cases hc
        refine ⟨_, rfl, p, 12, rfl, A10.pool, by decide, by decide, fun g H11 g0 g1 b11 q11 => ?_⟩
        obtain ⟨v, hv, hvv⟩ := three_at (x := 1 + d) (y := 1 + e) (z := 240) (d := g / 5) (by omega) (by omega)
        refine ⟨_, _, rfl, rfl, ⟨by decide, by decide⟩, c, _, _, _, rfl, rfl, SqL.of (b11 _ _ hcp upd_same), hv, ?_⟩
        exact ⟨v, rfl, A10.draw hlp b11 q11, by omega, by omega⟩
      obtain ⟨n, rfl, A8, n1, n2⟩ := hM
      refine ⟨fun σ H' => ∃ wd ws, σ = [some (.ref a), some (.int (0 + (i : Nat))), some (.ref p), some (.ref l), some (.ref t), some (.ref du), some (.ref fo), some (.int n), some (.ref wd), u9, none] ∧ At p l zs H2 H' ∧ H' wd = some (.tup (ws.map V.str)) ∧ FineT ws, ?_, fun σ H9 hM => ?_⟩
      · refine ⟨_, rfl, n, rfl, by omega, by omega, fun D hD => lc_it (walk_range (lo := 0) (n := n.toNat)) (fun j H' => ∃ ws : List Str, LcP p H8 D H' (ws.map V.str) ∧ ws.length = j ∧ ∀ z ∈ ws, isSh z = true) ⟨[], LcP.start hD A8.pool, rfl, fun _ h => nomatch h⟩ (fun _ _ _ _ => True.intro) (fun j x Ha Hb hj hP hy => ?_) fun Ha hP => ?_⟩
        · obtain ⟨ws, hL, hwl, hws⟩ := hP
          obtain ⟨rfl, rfl⟩ := hy
          have hlb := hL.but _ _ hlp A8.sh
          refine ⟨rfl, _, rfl, _, rfl, _, rfl, _, _, rfl, Or.inl ⟨_, SqL.of hlb, rfl⟩, p, _, rfl, hL.pool, ?_, ?_, fun d Hc d0 d1 bc qc => ?_⟩
          · rw [List.length_map]
            omega
          · rw [List.length_map]
            omega
          · rw [List.length_map] at d1
            have hL2 := hL.keep bc qc
            obtain ⟨z, hz, hzm⟩ := strs_at d0 d1
            refine ⟨l, _, _, _, rfl, rfl, SqL.of (bc _ _ hlp hlb), hz, _, hL2.it, ?_, ws ++ [z], ?_, by simp [hwl], fun y hy => ?_⟩
            · refine small ?_
              rw [List.length_map]
              omega
            · rw [List.map_append]
              exact hL2.push
            · rcases List.mem_append.mp hy with q | q
              · exact hws y q
              · rw [List.mem_singleton.mp q]
                exact hzs z hzm
        · obtain ⟨ws, hL, hwl, hws⟩ := hP
          refine ⟨D, _, rfl, .inl ⟨SqL.of hL.it, fun wd hwd => ?_⟩⟩
          refine ⟨wd, ws, rfl, ?_, upd_same, fun e => ?_, hws, by omega⟩
          · exact (A8.draw hlp hL.but hL.pool).same (same_new hwd)
          · rw [e] at hwl
            have : 0 = n.toNat := hwl
            omega
      obtain ⟨wd, ws, rfl, A9, hwd, hw⟩ := hM
      obtain ⟨e1, e2, e3, e4, e5⟩ := few _ hw
      refine ⟨fun σ H' => ∃ v9, σ = [some (.ref a), some (.int (0 + (i : Nat))), some (.ref p), some (.ref l), some (.ref t), some (.ref du), some (.ref fo), some (.int n), some (.ref wd), v9, none] ∧ Same H9 H', ?_, fun σ H10 hM => ?_⟩
      · refine ⟨2, rfl, by decide, by decide, ?_⟩
        refine for_it walk_range (fun j σ H' => ∃ v9, σ = [some (.ref a), some (.int (0 + (i : Nat))), some (.ref p), some (.ref l), some (.ref t), some (.ref du), some (.ref fo), some (.int n), some (.ref wd), v9, none] ∧ Same H9 H') ⟨u9, rfl, Same.refl H9⟩ (fun _ _ _ _ _ => True.intro) (fun j x σ Ha Hb hj hP hy => ?_) fun σ Ha hP => ?_
        · obtain ⟨v9, rfl, Sb⟩ := hP
          obtain ⟨rfl, rfl⟩ := hy
          have hwb := Sb _ _ hwd
          obtain ⟨w1, w2⟩ := th2 hwb hw
          refine ⟨_, rfl, _, rfl, .ref wd, rfl, w1, fun h => absurd h w2, fun b xs e hb hx H7 st qs S7 hst hst2 hqs => ?_⟩
          cases e
          have ex : xs = ws := by
            rw [hwb] at hb
            have h1 := HO.tup.inj (Option.some.inj hb)
            exact (List.map_inj_right (fun _ _ h => V.str.inj h)).mp h1.symm
          subst ex
          refine ⟨wd, st, qs, groups xs, rfl, ?_, hst2, hqs, e2, e3, e4, e1, fun H8 S8 => ?_⟩
          · rw [groups_expand]
            exact S7 _ _ hwb
          refine ⟨_, rfl, iteF ?_⟩
          have hwc := S8 _ _ (S7 _ _ hwb)
          obtain ⟨w3, w4⟩ := th2 hwc hw
          refine ⟨_, rfl, .ref wd, rfl, w3, fun h => absurd h w4, fun b ys e hb hy H11 st2 qs2 S11 hst3 hst4 hqs2 => ?_⟩
          cases e
          have ey : ys = xs := by
            rw [hwc] at hb
            have h1 := HO.tup.inj (Option.some.inj hb)
            exact (List.map_inj_right (fun _ _ h => V.str.inj h)).mp h1.symm
          subst ey
          refine ⟨st2, qs2, groups ys, rfl, hst4, hqs2, e5, fun H12 tt S12 htt htt2 => ?_⟩
          rw [groups_expand] at htt2
          have hwd12 := S12 _ _ (S11 _ _ hwc)
          refine ⟨_, rfl, .tuple (ys.map PyData.str), .tuple (ys.map PyData.str), .tup (SqT.of htt2) (dp_strs _ _ _), .tup (SqT.of hwd12) (dp_strs _ _ _), shaped_strsT hw.sh, shaped_strsT hw.sh, _, rfl, ?_⟩
          rw [eqv_strsT hw.sh]
          refine iteF ?_
          exact ⟨_, rfl, (((Sb.trans S7).trans S8).trans S11).trans S12⟩
        · exact hP
      obtain ⟨v9, rfl, S10⟩ := hM
      have A10 := A9.same S10
      refine ⟨_, rfl, _, rfl, p, wd, ws, rfl, A10.pool, S10 _ _ hwd, hw, fun H11 lo us b11 q11 hlo hlo2 hul hus => ?_⟩
      have A11 := A10.draw hlp b11 q11
      refine ⟨lo, rfl, ⟨_, SqL.of hlo2⟩, fun D hD => lc_it (walk_list (xs := us)) (fun j H' => LcAt H11 D H' (List.replicate j (V.bl true))) (LcAt.start hD) (fun j H' _ hP => SqL.of (hP.same _ _ hlo2)) (fun j x Ha Hb hj hP hy => ?_) fun Ha hP => ?_⟩
      · obtain ⟨rfl, hx⟩ := hy
        have hbad := (hus x (List.mem_of_getElem? hx)).kin (Kin.of hP.same)
        refine ⟨rfl, _, rfl, x, rfl, hbad.1, hbad.2, fun Hc Sc => ?_⟩
        have hL2 := hP.keep Sc
        refine ⟨_, hL2.it, ?_, ?_⟩
        · refine small ?_
          rw [List.length_replicate]
          omega
        · rw [List.replicate_succ']
          exact hL2.push
      · refine ⟨D, List.replicate us.length true, rfl, SqL.of (by rw [hP.it, List.map_replicate]), _, rfl, ?_⟩
        rw [show (List.replicate us.length true).all id = true by simp]
        refine iteF ?_
        refine ⟨_, _, _, _, _, _, _, _, _, rfl, ?_⟩
        -- the pool was new at the turn's beginning: all else is as it was
        have hb := (A11.same hP.same).but
        intro b o hbo
        have h1 := S1 _ _ hbo
        exact hb b o (fun e => by rw [e, hp] at h1; cases h1) (S11 _ _ h1)
    · exact hQ H1
end
end S11

namespace S11
open PySem PySem.Spec PyProof.Rows L2 L2.Own He Sl
def d_is_whole : He.DefD := ⟨("is_whole", none), "is_whole", "is_whole", defArgs s_is_whole, defBody s_is_whole, defScope s_is_whole, [], []⟩
def d_are_letters : He.DefD := ⟨("are_letters", none), "are_letters", "are_letters", defArgs s_are_letters, defBody s_are_letters, defScope s_are_letters, [], []⟩
def d_is_shade : He.DefD := ⟨("is_shade", none), "is_shade", "is_shade", defArgs s_is_shade, defBody s_is_shade, defScope s_is_shade, [], []⟩
def d_is_stripe : He.DefD := ⟨("is_stripe", none), "is_stripe", "is_stripe", defArgs s_is_stripe, defBody s_is_stripe, defScope s_is_stripe, [], []⟩
def d_first_wrong : He.DefD := ⟨("first_wrong", none), "first_wrong", "first_wrong", defArgs s_first_wrong, defBody s_first_wrong, defScope s_first_wrong, [], []⟩
def d_are_threads : He.DefD := ⟨("are_threads", none), "are_threads", "are_threads", defArgs s_are_threads, defBody s_are_threads, defScope s_are_threads, [], []⟩
def d_threads_of : He.DefD := ⟨("threads_of", none), "threads_of", "threads_of", defArgs s_threads_of, defBody s_threads_of, defScope s_threads_of, [], []⟩
def d_stripes_of : He.DefD := ⟨("stripes_of", none), "stripes_of", "stripes_of", defArgs s_stripes_of, defBody s_stripes_of, defScope s_stripes_of, [], []⟩
def d__law_pool : He.DefD := ⟨("_law_pool", none), "_law_pool", "_law_pool", defArgs s__law_pool, defBody s__law_pool, defScope s__law_pool, [], []⟩
def d__law_take : He.DefD := ⟨("_law_take", none), "_law_take", "_law_take", defArgs s__law_take, defBody s__law_take, defScope s__law_take, [], []⟩
def d__law_some_shades : He.DefD := ⟨("_law_some_shades", none), "_law_some_shades", "_law_some_shades", defArgs s__law_some_shades, defBody s__law_some_shades, defScope s__law_some_shades, [], []⟩
def d__law_drawn_stripes : He.DefD := ⟨("_law_drawn_stripes", none), "_law_drawn_stripes", "_law_drawn_stripes", defArgs s__law_drawn_stripes, defBody s__law_drawn_stripes, defScope s__law_drawn_stripes, [], []⟩
def d__law_threads : He.DefD := ⟨("_law_threads", none), "_law_threads", "_law_threads", defArgs s__law_threads, defBody s__law_threads, defScope s__law_threads, [], []⟩
def d__law_sort : He.DefD := ⟨("_law_sort", none), "_law_sort", "_law_sort", defArgs s__law_sort, defBody s__law_sort, defScope s__law_sort, [], []⟩
def d__law_whole : He.DefD := ⟨("_law_whole", none), "_law_whole", "_law_whole", defArgs s__law_whole, defBody s__law_whole, defScope s__law_whole, [], []⟩
def d__law_are_fewest : He.DefD := ⟨("_law_are_fewest", none), "_law_are_fewest", "_law_are_fewest", defArgs s__law_are_fewest, defBody s__law_are_fewest, defScope s__law_are_fewest, [], []⟩
def d__law_refused : He.DefD := ⟨("_law_refused", none), "_law_refused", "_law_refused", defArgs s__law_refused, defBody s__law_refused, defScope s__law_refused, [], []⟩
def d__law_no_threads : He.DefD := ⟨("_law_no_threads", none), "_law_no_threads", "_law_no_threads", defArgs s__law_no_threads, defBody s__law_no_threads, defScope s__law_no_threads, [], []⟩
def d_law : He.DefD := ⟨("law", none), "law", "law", defArgs s_law, defBody s_law, defScope s_law, [], []⟩
def fn : List He.DefD := [d_is_whole, d_are_letters, d_is_shade, d_is_stripe, d_first_wrong, d_are_threads, d_threads_of, d_stripes_of, d__law_pool, d__law_take, d__law_some_shades, d__law_drawn_stripes, d__law_threads, d__law_sort, d__law_whole, d__law_are_fewest, d__law_refused, d__law_no_threads, d_law]
def fa : List He.Fa := [.free "len", .free "isinstance", .free "all", .free "any", .free "tuple", .free "range", .free "enumerate", .free "sum", .free "abs", .free "divmod", .free "max", .free "min", .free "list", .free "str", .free "int", .free "bool", .free "repr", .free "sorted", .free "set", .free "zip", .free "dict", .free "reversed", .free "ValueError", .free "IndexError", .free "KeyError", .free "ZeroDivisionError", .free "LookupError", .int "MOST_THREADS" (240), .int "MOST_LETTERS" (3), .glo "StripeError", .glo "NoStripes", .glo "NoThreads", .glo "NoManner", .glo "TooLong", .glo "NoText", .glo "NoNumber", .glo "NoBox", .glo "TooMany", .glo "NoUndo", .glo "NoOrder", .glo "SpotError", .glo "NoSpot", .glo "NoCut", .glo "ShadeError", .glo "NoShade", .glo "NoName", .glo "StepError", .glo "NoStep", .glo "WayError", .glo "NoWay", .glo "NoWeave", .glo "is_whole", .glo "are_letters", .glo "is_shade", .glo "is_stripe", .glo "first_wrong", .glo "are_threads", .glo "threads_of", .glo "stripes_of", .glo "_law_pool", .glo "_law_take", .glo "_law_some_shades", .glo "_law_drawn_stripes", .glo "_law_threads", .glo "_law_sort", .glo "_law_whole", .glo "_law_are_fewest", .glo "_law_refused", .glo "_law_no_threads", .glo "law", .exc "NoThreads", .exm "NoThreads" "StripeError" true]
def excB (K : PySem.W.Frag) (D : Addr) : Bool := eqO (PySem.W.findIn K (.ref D) "__getattribute__") (some (some (.builtin "BaseException.__getattribute__"))) && (eqO (PySem.W.findIn K (.ref D) "__getattr__") (some none) && (decide (PySem.W.subIn K (.ref D) (.type "BaseException") = some true) && (PySem.W.hasDictIn K D && (eqO (PySem.W.findIn K (.ref D) "__class__") (some (some (.builtin "object.__class__"))) && (eqO (PySem.W.specialIn K (.builtin "object.__class__") "__get__") (some (some (.builtin "getset_descriptor.__get__"))) && (decide (PySem.W.takesIn K (.builtin "object.__class__") = some true) && decide (PySem.W.mroIn K D (.type "object") = some true)))))))
theorem excB_ok {K : PySem.W.Frag} {D : Addr} (h : excB K D = true) : ExcC K D := by
  obtain ⟨h1, h⟩ := ba h
  obtain ⟨h2, h⟩ := ba h
  obtain ⟨h3, h⟩ := ba h
  obtain ⟨h4, h⟩ := ba h
  obtain ⟨h5, h⟩ := ba h
  obtain ⟨h6, h⟩ := ba h
  obtain ⟨h7, h8⟩ := ba h
  exact ⟨eqO_ok h1, eqO_ok h2, of_decide_eq_true h3, h4, eqO_ok h5, eqO_ok h6, of_decide_eq_true h7, of_decide_eq_true h8⟩
def kitR (K : PySem.W.Frag) (c : Str) (l : List (Str × Bool)) : Bool := l.all fun p => decide (PySem.W.kitOne K (.ref (ga K c)) (.ref (ga K p.1)) = some p.2)
def kitT (K : PySem.W.Frag) (c : Str) (l : List (String × Bool)) : Bool := l.all fun p => decide (PySem.W.kitOne K (.ref (ga K c)) (.type p.1) = some p.2)
theorem kitR_ok {K : PySem.W.Frag} {c : Str} {l : List (Str × Bool)} (h : kitR K c l = true) (i : Nat) {p : Str × Bool} (e : l[i]? = some p) : PySem.W.kitOne K (.ref (ga K c)) (.ref (ga K p.1)) = some p.2 := of_decide_eq_true (List.all_eq_true.mp h p (List.mem_of_getElem? e))
theorem kitT_ok {K : PySem.W.Frag} {c : Str} {l : List (String × Bool)} (h : kitT K c l = true) (i : Nat) {p : String × Bool} (e : l[i]? = some p) : PySem.W.kitOne K (.ref (ga K c)) (.type p.1) = some p.2 := of_decide_eq_true (List.all_eq_true.mp h p (List.mem_of_getElem? e))
def kr_NoThreads : List (Str × Bool) := [("StripeError", true), ("NoStripes", false), ("NoThreads", true), ("NoManner", false), ("TooLong", false), ("NoText", false), ("NoNumber", false), ("NoBox", false), ("TooMany", false), ("NoUndo", false), ("NoOrder", false), ("SpotError", false), ("NoSpot", false), ("NoCut", false), ("ShadeError", false), ("NoShade", false), ("NoName", false), ("StepError", false), ("NoStep", false), ("WayError", false), ("NoWay", false), ("NoWeave", false)]
def kt_NoThreads : List (String × Bool) := [("ValueError", true), ("IndexError", false), ("KeyError", false), ("ZeroDivisionError", false), ("LookupError", false)]
def ex_NoThreads (K : PySem.W.Frag) : Bool := excB K (ga K "NoThreads") && (kitR K "NoThreads" kr_NoThreads && kitT K "NoThreads" kt_NoThreads)
def ex (K : PySem.W.Frag) : Bool := (ex_NoThreads K && true)
abbrev R : PySem.W.OpenRow := PySem.W.OpenLaw.row PySem.Challenge.rw_stripelay_k02_threads_and_stripes
abbrev hk : PySem.W.Hook := He.hookX 5 fa fn [] [] ex
def ob (s : PySem.W.SharedT) : He.AlX := He.obsX 5 fa fn [] [] ex (HandSHeadRun.getT s)
theorem ob_eq (s : PySem.W.SharedT) : ob s = hk.obs s.abs := He.obsX_eq (HandSHeadRun.getT_eq s)
def nm0 : List PySem.Str := ["StripeError", "NoStripes", "NoThreads", "NoManner", "TooLong", "NoText", "NoNumber", "NoBox", "TooMany", "NoUndo", "NoOrder", "SpotError", "NoSpot", "NoCut", "ShadeError", "NoShade", "NoName", "StepError", "NoStep", "WayError", "NoWay", "NoWeave", "is_whole", "MOST_THREADS", "MOST_LETTERS", "are_letters", "is_shade", "is_stripe", "first_wrong", "are_threads"]
def nm1 : List PySem.Str := ["threads_of", "stripes_of", "_law_pool", "_law_take", "_law_some_shades", "_law_drawn_stripes", "_law_threads", "_law_sort", "_law_whole", "_law_are_fewest", "_law_refused", "_law_no_threads"]
def names : List PySem.Str := nm0 ++ nm1
theorem run (w : World) : HandSHeadRun.RunEq R (PySem.W.view R.prog [46]) hk ob 20000 names w := by
  intro os
  kernel_rfl
theorem txt {K : PySem.W.Frag} {h : Heap} {mg : Str → Option Value} {w : World} (X : K.In h) (G : h.Ns mainGlobals mg) (c : He.SaysX fa fn [] [] ex w h K) : Txt K mg := by
  have cd := c.t.d
  have cx := c.more
  obtain ⟨e_NoThreads, cx⟩ := ba cx
  obtain ⟨e1_NoThreads, e2_NoThreads⟩ := ba e_NoThreads
  obtain ⟨e2_NoThreads, e3_NoThreads⟩ := ba e2_NoThreads
  exact {
    f_len := He.free_ok X G (cd.fact 0 (f := .free "len") rfl)
    f_isinstance := He.free_ok X G (cd.fact 1 (f := .free "isinstance") rfl)
    f_all := He.free_ok X G (cd.fact 2 (f := .free "all") rfl)
    f_any := He.free_ok X G (cd.fact 3 (f := .free "any") rfl)
    f_tuple := He.free_ok X G (cd.fact 4 (f := .free "tuple") rfl)
    f_range := He.free_ok X G (cd.fact 5 (f := .free "range") rfl)
    f_enumerate := He.free_ok X G (cd.fact 6 (f := .free "enumerate") rfl)
    f_sum := He.free_ok X G (cd.fact 7 (f := .free "sum") rfl)
    f_abs := He.free_ok X G (cd.fact 8 (f := .free "abs") rfl)
    f_divmod := He.free_ok X G (cd.fact 9 (f := .free "divmod") rfl)
    f_max := He.free_ok X G (cd.fact 10 (f := .free "max") rfl)
    f_min := He.free_ok X G (cd.fact 11 (f := .free "min") rfl)
    f_list := He.free_ok X G (cd.fact 12 (f := .free "list") rfl)
    f_str := He.free_ok X G (cd.fact 13 (f := .free "str") rfl)
    f_int := He.free_ok X G (cd.fact 14 (f := .free "int") rfl)
    f_bool := He.free_ok X G (cd.fact 15 (f := .free "bool") rfl)
    f_repr := He.free_ok X G (cd.fact 16 (f := .free "repr") rfl)
    f_sorted := He.free_ok X G (cd.fact 17 (f := .free "sorted") rfl)
    f_set := He.free_ok X G (cd.fact 18 (f := .free "set") rfl)
    f_zip := He.free_ok X G (cd.fact 19 (f := .free "zip") rfl)
    f_dict := He.free_ok X G (cd.fact 20 (f := .free "dict") rfl)
    f_reversed := He.free_ok X G (cd.fact 21 (f := .free "reversed") rfl)
    f_ValueError := He.free_ok X G (cd.fact 22 (f := .free "ValueError") rfl)
    f_IndexError := He.free_ok X G (cd.fact 23 (f := .free "IndexError") rfl)
    f_KeyError := He.free_ok X G (cd.fact 24 (f := .free "KeyError") rfl)
    f_ZeroDivisionError := He.free_ok X G (cd.fact 25 (f := .free "ZeroDivisionError") rfl)
    f_LookupError := He.free_ok X G (cd.fact 26 (f := .free "LookupError") rfl)
    m_MOST_THREADS := He.int_ok X G (cd.fact 27 (f := .int "MOST_THREADS" (240)) rfl)
    m_MOST_LETTERS := He.int_ok X G (cd.fact 28 (f := .int "MOST_LETTERS" (3)) rfl)
    c_StripeError := He.glo_ok X G (cd.fact 29 (f := .glo "StripeError") rfl)
    c_NoStripes := He.glo_ok X G (cd.fact 30 (f := .glo "NoStripes") rfl)
    c_NoThreads := He.glo_ok X G (cd.fact 31 (f := .glo "NoThreads") rfl)
    c_NoManner := He.glo_ok X G (cd.fact 32 (f := .glo "NoManner") rfl)
    c_TooLong := He.glo_ok X G (cd.fact 33 (f := .glo "TooLong") rfl)
    c_NoText := He.glo_ok X G (cd.fact 34 (f := .glo "NoText") rfl)
    c_NoNumber := He.glo_ok X G (cd.fact 35 (f := .glo "NoNumber") rfl)
    c_NoBox := He.glo_ok X G (cd.fact 36 (f := .glo "NoBox") rfl)
    c_TooMany := He.glo_ok X G (cd.fact 37 (f := .glo "TooMany") rfl)
    c_NoUndo := He.glo_ok X G (cd.fact 38 (f := .glo "NoUndo") rfl)
    c_NoOrder := He.glo_ok X G (cd.fact 39 (f := .glo "NoOrder") rfl)
    c_SpotError := He.glo_ok X G (cd.fact 40 (f := .glo "SpotError") rfl)
    c_NoSpot := He.glo_ok X G (cd.fact 41 (f := .glo "NoSpot") rfl)
    c_NoCut := He.glo_ok X G (cd.fact 42 (f := .glo "NoCut") rfl)
    c_ShadeError := He.glo_ok X G (cd.fact 43 (f := .glo "ShadeError") rfl)
    c_NoShade := He.glo_ok X G (cd.fact 44 (f := .glo "NoShade") rfl)
    c_NoName := He.glo_ok X G (cd.fact 45 (f := .glo "NoName") rfl)
    c_StepError := He.glo_ok X G (cd.fact 46 (f := .glo "StepError") rfl)
    c_NoStep := He.glo_ok X G (cd.fact 47 (f := .glo "NoStep") rfl)
    c_WayError := He.glo_ok X G (cd.fact 48 (f := .glo "WayError") rfl)
    c_NoWay := He.glo_ok X G (cd.fact 49 (f := .glo "NoWay") rfl)
    c_NoWeave := He.glo_ok X G (cd.fact 50 (f := .glo "NoWeave") rfl)
    g_is_whole := He.glo_ok X G (cd.fact 51 (f := .glo "is_whole") rfl)
    g_are_letters := He.glo_ok X G (cd.fact 52 (f := .glo "are_letters") rfl)
    g_is_shade := He.glo_ok X G (cd.fact 53 (f := .glo "is_shade") rfl)
    g_is_stripe := He.glo_ok X G (cd.fact 54 (f := .glo "is_stripe") rfl)
    g_first_wrong := He.glo_ok X G (cd.fact 55 (f := .glo "first_wrong") rfl)
    g_are_threads := He.glo_ok X G (cd.fact 56 (f := .glo "are_threads") rfl)
    g_threads_of := He.glo_ok X G (cd.fact 57 (f := .glo "threads_of") rfl)
    g_stripes_of := He.glo_ok X G (cd.fact 58 (f := .glo "stripes_of") rfl)
    g__law_pool := He.glo_ok X G (cd.fact 59 (f := .glo "_law_pool") rfl)
    g__law_take := He.glo_ok X G (cd.fact 60 (f := .glo "_law_take") rfl)
    g__law_some_shades := He.glo_ok X G (cd.fact 61 (f := .glo "_law_some_shades") rfl)
    g__law_drawn_stripes := He.glo_ok X G (cd.fact 62 (f := .glo "_law_drawn_stripes") rfl)
    g__law_threads := He.glo_ok X G (cd.fact 63 (f := .glo "_law_threads") rfl)
    g__law_sort := He.glo_ok X G (cd.fact 64 (f := .glo "_law_sort") rfl)
    g__law_whole := He.glo_ok X G (cd.fact 65 (f := .glo "_law_whole") rfl)
    g__law_are_fewest := He.glo_ok X G (cd.fact 66 (f := .glo "_law_are_fewest") rfl)
    g__law_refused := He.glo_ok X G (cd.fact 67 (f := .glo "_law_refused") rfl)
    g__law_no_threads := He.glo_ok X G (cd.fact 68 (f := .glo "_law_no_threads") rfl)
    g_law := He.glo_ok X G (cd.fact 69 (f := .glo "law") rfl)
    xc_NoThreads := He.exc_ok (cd.fact 70 (f := .exc "NoThreads") rfl)
    xm_NoThreads := He.exm_ok (cd.fact 71 (f := .exm "NoThreads" "StripeError" true) rfl)
    F_is_whole := by
      obtain ⟨fd, F⟩ := cd.def_ 0 (d := d_is_whole) rfl
      exact fdAt_eq F
    F_are_letters := by
      obtain ⟨fd, F⟩ := cd.def_ 1 (d := d_are_letters) rfl
      exact fdAt_eq F
    F_is_shade := by
      obtain ⟨fd, F⟩ := cd.def_ 2 (d := d_is_shade) rfl
      exact fdAt_eq F
    F_is_stripe := by
      obtain ⟨fd, F⟩ := cd.def_ 3 (d := d_is_stripe) rfl
      exact fdAt_eq F
    F_first_wrong := by
      obtain ⟨fd, F⟩ := cd.def_ 4 (d := d_first_wrong) rfl
      exact fdAt_eq F
    F_are_threads := by
      obtain ⟨fd, F⟩ := cd.def_ 5 (d := d_are_threads) rfl
      exact fdAt_eq F
    F_threads_of := by
      obtain ⟨fd, F⟩ := cd.def_ 6 (d := d_threads_of) rfl
      exact fdAt_eq F
    F_stripes_of := by
      obtain ⟨fd, F⟩ := cd.def_ 7 (d := d_stripes_of) rfl
      exact fdAt_eq F
    F__law_pool := by
      obtain ⟨fd, F⟩ := cd.def_ 8 (d := d__law_pool) rfl
      exact fdAt_eq F
    F__law_take := by
      obtain ⟨fd, F⟩ := cd.def_ 9 (d := d__law_take) rfl
      exact fdAt_eq F
    F__law_some_shades := by
      obtain ⟨fd, F⟩ := cd.def_ 10 (d := d__law_some_shades) rfl
      exact fdAt_eq F
    F__law_drawn_stripes := by
      obtain ⟨fd, F⟩ := cd.def_ 11 (d := d__law_drawn_stripes) rfl
      exact fdAt_eq F
    F__law_threads := by
      obtain ⟨fd, F⟩ := cd.def_ 12 (d := d__law_threads) rfl
      exact fdAt_eq F
    F__law_sort := by
      obtain ⟨fd, F⟩ := cd.def_ 13 (d := d__law_sort) rfl
      exact fdAt_eq F
    F__law_whole := by
      obtain ⟨fd, F⟩ := cd.def_ 14 (d := d__law_whole) rfl
      exact fdAt_eq F
    F__law_are_fewest := by
      obtain ⟨fd, F⟩ := cd.def_ 15 (d := d__law_are_fewest) rfl
      exact fdAt_eq F
    F__law_refused := by
      obtain ⟨fd, F⟩ := cd.def_ 16 (d := d__law_refused) rfl
      exact fdAt_eq F
    F__law_no_threads := by
      obtain ⟨fd, F⟩ := cd.def_ 17 (d := d__law_no_threads) rfl
      exact fdAt_eq F
    F_law := by
      obtain ⟨fd, F⟩ := cd.def_ 18 (d := d_law) rfl
      exact fdAt_eq F
    xe_NoThreads := excB_ok e1_NoThreads
    xi_NoThreads_StripeError := kitR_ok e2_NoThreads 0 (p := ("StripeError", true)) rfl
    xi_NoThreads_NoStripes := kitR_ok e2_NoThreads 1 (p := ("NoStripes", false)) rfl
    xi_NoThreads_NoThreads := kitR_ok e2_NoThreads 2 (p := ("NoThreads", true)) rfl
    xi_NoThreads_NoManner := kitR_ok e2_NoThreads 3 (p := ("NoManner", false)) rfl
    xi_NoThreads_TooLong := kitR_ok e2_NoThreads 4 (p := ("TooLong", false)) rfl
    xi_NoThreads_NoText := kitR_ok e2_NoThreads 5 (p := ("NoText", false)) rfl
    xi_NoThreads_NoNumber := kitR_ok e2_NoThreads 6 (p := ("NoNumber", false)) rfl
    xi_NoThreads_NoBox := kitR_ok e2_NoThreads 7 (p := ("NoBox", false)) rfl
    xi_NoThreads_TooMany := kitR_ok e2_NoThreads 8 (p := ("TooMany", false)) rfl
    xi_NoThreads_NoUndo := kitR_ok e2_NoThreads 9 (p := ("NoUndo", false)) rfl
    xi_NoThreads_NoOrder := kitR_ok e2_NoThreads 10 (p := ("NoOrder", false)) rfl
    xi_NoThreads_SpotError := kitR_ok e2_NoThreads 11 (p := ("SpotError", false)) rfl
    xi_NoThreads_NoSpot := kitR_ok e2_NoThreads 12 (p := ("NoSpot", false)) rfl
    xi_NoThreads_NoCut := kitR_ok e2_NoThreads 13 (p := ("NoCut", false)) rfl
    xi_NoThreads_ShadeError := kitR_ok e2_NoThreads 14 (p := ("ShadeError", false)) rfl
    xi_NoThreads_NoShade := kitR_ok e2_NoThreads 15 (p := ("NoShade", false)) rfl
    xi_NoThreads_NoName := kitR_ok e2_NoThreads 16 (p := ("NoName", false)) rfl
    xi_NoThreads_StepError := kitR_ok e2_NoThreads 17 (p := ("StepError", false)) rfl
    xi_NoThreads_NoStep := kitR_ok e2_NoThreads 18 (p := ("NoStep", false)) rfl
    xi_NoThreads_WayError := kitR_ok e2_NoThreads 19 (p := ("WayError", false)) rfl
    xi_NoThreads_NoWay := kitR_ok e2_NoThreads 20 (p := ("NoWay", false)) rfl
    xi_NoThreads_NoWeave := kitR_ok e2_NoThreads 21 (p := ("NoWeave", false)) rfl
    xi_NoThreads_ValueError := kitT_ok e3_NoThreads 0 (p := ("ValueError", true)) rfl
    xi_NoThreads_IndexError := kitT_ok e3_NoThreads 1 (p := ("IndexError", false)) rfl
    xi_NoThreads_KeyError := kitT_ok e3_NoThreads 2 (p := ("KeyError", false)) rfl
    xi_NoThreads_ZeroDivisionError := kitT_ok e3_NoThreads 3 (p := ("ZeroDivisionError", false)) rfl
    xi_NoThreads_LookupError := kitT_ok e3_NoThreads 4 (p := ("LookupError", false)) rfl
  }
theorem facts {P : Program} {w : World} {K : PySem.W.Frag} {h : Heap} {mg : Str → Option Value} {f : Addr} (X : K.In h) (G : h.Ns mainGlobals mg) (hfa : mg ("law" : Str) = some (.ref f)) (c : He.SaysX fa fn [] [] ex w h K) :
    ∃ fd : FuncData, (∀ (s : Shared) (v : Value), BindsTo s fd ⟨[v], []⟩ [("_law_script", v)]) ∧ ∀ base : Heap, K.In base → base.Ns mainGlobals mg → FnOk P w K mg base CX0 6 f fd ["_law_script"] (spLaw K) := by
  have T := txt X G c
  have e := hfa.symm.trans T.g_law
  cases e
  have b := FunD.bindsA (ps := ["_law_script"]) T.F_law fun _ _ _ _ _ _ us hl => match us, hl with | [_], _ => rfl
  exact ⟨_, fun s v => b s [v] rfl, fun base _ _ => ok_law T⟩
end S11
open PySem PySem.W PySem.Calls PyProof.Rows
theorem PySem.Challenge.cw_stripelay_k02_threads_and_stripes_holds : PySem.Challenge.rw_stripelay_k02_threads_and_stripes.Holds := by
  w_on; o_law
  refine HandSHeadRun.head_any (r := OpenLaw.row PySem.Challenge.rw_stripelay_k02_threads_and_stripes) (q := view (OpenLaw.row PySem.Challenge.rw_stripelay_k02_threads_and_stripes).prog [46]) (H := S11.hk) (ob := S11.ob) (M := 20000) (loose := S11.names) (d := HandSHeadRun.topDef (OpenLaw.row PySem.Challenge.rw_stripelay_k02_threads_and_stripes).prog 46) (kwd := []) S11.ob_eq
    (by kernel_rfl) (fun s => by kernel_rfl) S11.run (by kernel_rfl) (by kernel_rfl) (by kernel_rfl) (by rfl) (by first | assumption | decide +kernel) (by decide +kernel) ⟨rfl, rfl, rfl, rfl, rfl, by decide +kernel⟩ ?hw ?hc
  case hw => w_witness2
  case hc =>
    refine L2.walk_ofE (l := PySem.Challenge.rw_stripelay_k02_threads_and_stripes) (n := 63) (k := 6) (x := "_law_script") (CX := L2.CX0) rfl (by decide) (by kernel_rfl) ⟨rfl, by decide, by decide⟩ ?F (fun _ _ _ _ z => z)
    intro w mg fa h Y G hmg0
    obtain ⟨K, KX, c⟩ := Y
    have hmg : mg ("law" : PySem.Str) = some (.ref fa) := by
      have e : (HandSHeadRun.topDef (OpenLaw.row PySem.Challenge.rw_stripelay_k02_threads_and_stripes).prog 46).name = ("law" : PySem.Str) := by kernel_rfl
      rw [← e]
      exact hmg0
    obtain ⟨fd, hb, hF⟩ := S11.facts (P := (PySem.Challenge.rw_stripelay_k02_threads_and_stripes).prog) (w := w) KX G hmg c
    exact ⟨K, fd, S11.spLaw K, KX, hb, fun H a ns hl _ hS => ⟨a, ns, rfl, hS, fun _ => rfl⟩, hF⟩
