import PyProof.Rows.All
import Wide.All
import OpenK.AllK
import Wide.FinOn
import KE.KStateDown
import KE.GoesMore
import HandS.ForMost
import HandS.ForExc
import HandS.More
import HandS.ExcIs
import HandS.IsInst
import PyProof.EnumMake
import HandS.Walk
import HandS.Words
import HandS.TupAny
import HandS.TupMul
import HandS.Codes
import HandS.Style
import KE.KRevSl
import HandS.SlotsOwn
import KE.KCallOwn
import PyProof.FactsAll.object_2
import KE.DataMinMax
import HandS.MakeKwOnly
import HandS.Defaults
import HandS.MakeKw
import HandS.Set
import HandS.SetFor
import PyProof.Rows.SortShellAny
import HandS.Strs
import HandS.SortInts
import HandS.FStr
import HandS.Text
import Lean
import HandS.Wide
import HandS.WideBits
import HandS.Zip
import HandS.Conv
import HandS.CallSlots
import HandS.Head0
import HandS.Head1
import HandS.Head2
import HandS.HeadEnd
import HandS.HeadHook1
import HandS.HeadHook2
import HandS.HeadHook3
import HandS.HeadHook4
import PySem.Challenge.RW_stripelay_k27_whole_seen_in_part
set_option Elab.async false
set_option linter.all false
set_option maxRecDepth 100000
set_option maxHeartbeats 0
namespace L2.Own
open PySem PySem.Spec PyProof.Rows

/-! ## a caught error that a name keeps behind its try -/
/-- an error object of the class cls, its dict d, at a -/
def errO (cls : Value) (d : Option Addr) (a : Addr) : HO :=
  .ext fun h => ∃ (oe : Obj) (vs : Array Value), h.get? a = some oe ∧ Zc cls d oe ∧ oe.data = .fields vs
section
variable {X : Cx} {pins : List (Addr × Obj)} {σ : St} {H : Hp} {s : Shared}
theorem errO_ok {P : Program} {w : World} {h : Heap} {a : Addr} {cls : Value} {d : Option Addr} {oe : Obj} {vs : Array Value}
    (he : h.get? a = some oe) (hz : Zc cls d oe) (hd : oe.data = .fields vs) : ObjOk P w H h a (errO cls d a) :=
  ⟨⟨oe, vs, he, hz, hd⟩, ⟨oe, he⟩, fun _ _ p k => let ⟨o, v, q, r⟩ := p; ⟨o, v, k o q, r⟩⟩
/-- an object that no state of the entry held, and that nothing tracks, may be tracked from now on -/
theorem track {a : Addr} {o : HO} {oa : Obj} (I : Inv X pins σ H s) (h0 : X.s_0.heap.get? a = none) (ha : s.heap.get? a = some oa)
    (hcell : ∀ v, oa.data ≠ .cell v) (hn : H a = none) (hL : a ≠ X.env.locals) (hp : ∀ p ∈ X.pn ++ pins, p.1 ≠ a)
    (ok : ObjOk X.prog X.w (upd H a o) s.heap a o) : Inv X pins σ (upd H a o) s := by
  have old : ∀ {b : Addr} {u : HO}, H b = some u → b ≠ a := fun e => ne_of_none e hn
  have old0 : ∀ {b : Addr} {u : Obj}, X.s_0.heap.get? b = some u → b ≠ a := fun {b u} e z => by
    rw [z, h0] at e
    cases e
  constructor
  · exact I.ok
  · exact I.os
  · exact I.bare
  · exact
      { keep := I.base.keep
        slot := I.base.slot
        free := fun b u e n hx => by
          rw [upd_ne (old0 e)]
          exact I.base.free b u e n hx
        there := I.base.there
        tups := fun b xs e => by
          have q := I.base.tups b xs e
          rw [upd_ne (old q)]
          exact q
        frzs := fun b u xs e => by
          have q := I.base.frzs b u xs e
          rw [upd_ne (old q)]
          exact q
        tbls := fun b ps e => by
          obtain ⟨m, q⟩ := I.base.tbls b ps e
          refine ⟨m, ?_⟩
          rw [upd_ne (old q)]
          exact q }
  · exact I.loc
  · exact I.cell
  · rw [upd_ne (Ne.symm hL)]
    exact I.free
  · intro x c e
    have hc : c ≠ a := fun z => by
      obtain ⟨v, u, hu, hd⟩ := I.cell x c e
      rw [z, ha] at hu
      cases hu
      exact hcell _ hd
    rw [upd_ne hc]
    exact I.freeC x c e
  · intro p hq
    obtain ⟨h1, h2, h3⟩ := I.pin p hq
    refine ⟨h1, ?_, h3⟩
    rw [upd_ne (hp p hq)]
    exact h2
  · intro b u e
    by_cases hb : b = a
    · subst hb
      rw [upd_same] at e
      cases e
      exact ok
    · rw [upd_ne hb] at e
      refine (I.hok b u e).stay (fun _ _ _ q => q) (fun c q => ?_) fun c xs q => ?_
      · rw [upd_ne (old q)]
        exact q
      · rw [upd_ne (old q)]
        exact q
  · exact I.len
end

/-- what «except x as n: suite» wishes, where the error is tracked behind the suite -/
def wKeep (K : PySem.W.Frag) (c : Value) (i : Nat) (ts : Addr → Value → Option Addr → TS) (Wout : WX) (D : Ends) : WX := fun cls d σ H =>
  ∃ b, PySem.W.exmOne K cls c = some b ∧
    (b = true → ∀ a, H a = none →
      ts a cls d { nx := fun σ' H' => D.nx (σ'.set i none) (upd H' a (errO cls d a)), rt := fun _ _ => False, bk := fun _ _ => False, ct := fun _ _ => False }
        (σ.set i (some (.ref a))) H) ∧
    (b = false → Wout cls d σ H)

section
variable {X : Cx} {x n : Str} {c : Value} {i : Nat} {body suite : List Stmt} {b₀ : Stmt} {np pos pos' : Pos} {tb : WX → TS}
  {ts : Addr → Value → Option Addr → TS} {Wout : WX}
theorem ps_try_keep (hs : X.stack = X.env :: X.outer) (hf : X.env.frame = some X.env.locals) (hex : X.ex = []) (hN : X.N.Nodup) (hi : X.N[i]? = some n)
    (hln : X.env.kindOf n = some .local) (hc : Names X x c) (tk : Takes X Wout)
    (hb : ∀ (W : WX) (pn : List (Addr × Obj)) (xe : Value → Shared → Prop), Takes (X.tr pn xe) W →
      PassesOwn (model X.prog X.w) X.A X.env xe → PSs (X.tr pn xe) body (tb W))
    (hsu : ∀ (a : Addr) (oe : Obj) (cls : Value) (d : Option Addr) (pn : List (Addr × Obj)), Zc cls d oe → (∃ vs, oe.data = .fields vs) →
      PSs (X.suite a ((a, oe) :: pn)) (b₀ :: suite) (ts a cls d)) :
    PS X (.Try body [.ExceptHandler (some (.Name x np)) (some n) (b₀ :: suite) pos'] [] [] pos)
      (fun D σ H => tb (wKeep X.K c i ts Wout D) D σ H) := by
  constructor
  intro pins s σ H D I h
  have ok := I.ok
  have hfr : X.A.frames = some (X.env :: X.outer) := by
    rw [ok.frames, hs]
  refine wpAny_Try_except ?_
  -- what is wanted of an error that leaves the body
  let XE' : Value → Shared → Prop := fun e s₁ => wpAny (model X.prog X.w) X.A (noteFrame e X.env)
    (fun _ s₂ => wpAny (model X.prog X.w) X.A (setFlight e none)
      (fun _ s₃ => wpAny (model X.prog X.w) X.A (handleBy e X.env [.ExceptHandler (some (.Name x np)) (some n) (b₀ :: suite) pos'])
        (SP X pins D) X.xe s₃) X.xe s₂) X.xe s₁
  have takes : Takes (X.tr (X.pn ++ pins) XE') (wKeep X.K c i ts Wout D) := by
    intro u s' xx
    obtain ⟨a, B, sI, pins', σ', H', cls, d, rfl, J', nb, up, sky, na, os, ag, b, hb1, hyes, hno⟩ := xx
    have J : Inv X pins σ' H' sI := J'.ofTry ok
    have Ba : B.get? a = none := by
      rcases sky with z | z | z
      · exact z.2.1
      · exact z.2.1
      · exact z.2.1
    show wpAny (model X.prog X.w) X.A (noteFrame (.ref a) X.env) _ _ _
    refine Sky.land (B := B) (Z := Zc cls d) Zc.steady hfr hf (by rw [← hs]; exact sky) fun h3 fl3 up3 => ?_
    have J3 : Inv X pins σ' H' { s' with heap := h3 } := J.landed nb fl3.1 (up.trans up3) os ag
    obtain ⟨oe3, vs3, he3, hz3, hd3⟩ := fl3.there
    have nfr : a ∉ frs (X.env :: X.outer) := fun hm => by
      obtain ⟨_, o', e', hnf⟩ := fl3.2.2.1.mem hm
      rw [he3] at e'
      cases e'
      exact hnf _ hd3
    have nL : a ≠ X.env.locals := fun z =>
      nfr (List.mem_filterMap.mpr ⟨X.env, List.mem_cons_self, by rw [hf, z]⟩)
    have nF : a ∉ X.fs := fun hm => by
      obtain ⟨e, he, q⟩ := List.mem_filterMap.mp hm
      exact nfr (List.mem_filterMap.mpr ⟨e, List.mem_cons_of_mem _ he, q⟩)
    -- the error is new to the state without it, so to the entry and to every pin
    have nI : sI.heap.get? a = none := by
      cases e : sI.heap.get? a with
      | none => rfl
      | some o =>
        have z := nb a o e (by rw [hs]; exact nfr)
        rw [Ba] at z
        cases z
    have n0 : X.s_0.heap.get? a = none := by
      cases e : X.s_0.heap.get? a with
      | none => rfl
      | some o =>
        obtain ⟨o', z⟩ := J.base.there a o e (by rw [hex]; exact fun y => nomatch y)
        rw [nI] at z
        cases z
    have npin : ∀ p ∈ X.pn ++ pins, p.1 ≠ a := fun p hp z => by
      have q := (J.pin p hp).1
      rw [z, nI] at q
      cases q
    have S3 := J3.suite he3 hd3 na nL nF
    refine wpAny_handleBy_cons (codeAny_handlers_test ?_) (fun q => nomatch q)
    have LT : PySem.W.Looks (model X.prog X.w) h3 (typeOf (.ref a)) cls := fun A Q E s k q =>
      wpAny_typeOf_ref (k _ _ he3) (by rw [hz3.1]; exact q)
    have LM := PySem.W.exm_one (M := model X.prog X.w) J3.kIn LT hb1
    have test : ∀ {Q : Value → Shared → Prop} {E : Value → Shared → Prop}, Q c { s' with heap := h3 } →
        wpAny (model X.prog X.w) (X.A.mark (some (.ref a))) (eval (.Name x np) X.env) Q E { s' with heap := h3 } := fun {Q E} q => by
      rcases hc with ⟨hg, hdbg, hm | ⟨hm, hv, hnn⟩⟩
      · exact ld_glob S3 hg hm q hdbg
      · exact ld_blt S3 hg hm hv q hnn hdbg
    refine test (LM.here ?_)
    cases b with
    | true =>
      refine codeAny_handlers_suite_as (HandSPX.lands_againZ fl3 fun h4 fl4 up4 => ?_)
      have J4 : Inv X pins σ' H' { s' with heap := h4 } := J.landed nb fl4.1 ((up.trans up3).trans up4) os ag
      obtain ⟨oe4, vs4, he4, hz4, hd4⟩ := fl4.there
      have S4 := J4.suite he4 hd4 na nL nF
      refine store_ok (X := X.suite a ((a, oe4) :: (X.pn ++ pins))) (v := .ref a) S4 hN hi (.inl hln) rfl (fun s5 S5 => ?_) (.inr hln)
      have run := (hsu a oe4 cls d (X.pn ++ pins) hz4 ⟨_, hd4⟩).run [] s5 _ H' _ S5 (hyes rfl a na)
      refine wpAny_mono run (fun f s6 hsp => ?_) (fun _ _ z => False.elim z)
      cases f with
      | next =>
        obtain ⟨σ6, H6, S6, q6⟩ := hsp
        obtain ⟨g6, n6, _⟩ := S6.pin (a, oe4) (List.mem_append_left _ List.mem_cons_self)
        have J6 : Inv X pins σ6 (upd H6 a (errO cls d a)) s6 := track (S6.unsuite ok) n0 g6
          (fun v z => by rw [hd4] at z; cases z) n6 nL npin (errO_ok g6 hz4 hd4)
        exact gone_ok J6 hN hi hln fun s7 J7 => ⟨_, _, J7, q6⟩
      | brk =>
        obtain ⟨_, _, _, q6⟩ := hsp
        exact q6.elim
      | cont =>
        obtain ⟨_, _, _, q6⟩ := hsp
        exact q6.elim
      | ret u =>
        obtain ⟨_, _, _, _, _, q6⟩ := hsp
        exact q6.elim
    | false =>
      show wpAny _ X.A (handleBy (.ref a) X.env []) _ _ _
      refine wpAny_handleBy_nil ?_
      obtain ⟨k1, k2, k3, oe, vs, T, oT, ts', he, hz, hd, h1, hr⟩ := id fl3
      unfold PySem.passOn
      refine wpAny_bind (wpAny_field he hd h1 ?_)
      rw [if_neg (show ¬ ((Value.ref T == Value.none) = true) by simp)]
      have fin : wpAny (model X.prog X.w) X.A (setFlight (.ref a) X.env.frame)
          (fun _ s4 => wpAny (model X.prog X.w) X.A (throw (.ref a) : Sem Flow) (SP X pins D) X.xe s4) X.xe { s' with heap := h3 } := by
        rw [hf]
        refine HandSPX.setFlight_upZ fl3 fun h4 hh4 up4 => wpAny_throw (tk _ _ ?_)
        refine ⟨a, B, sI, pins, σ', H', cls, d, rfl, J, nb, (up.trans up3).trans up4, .inr (.inr ?_), na, os, ag, hno rfl⟩
        rw [hs]
        exact hh4
      first
        | exact wpAny_bind (wpAny_pure (wpAny_bind fin))
        | exact wpAny_bind fin
  refine wpAny_mono ((hb _ (X.pn ++ pins) XE' takes PassesOwn.looking).run [] s σ H D (I.toTry _) h) (fun f s1 hsp => ?_) (fun e s1 he => he)
  cases f with
  | next =>
    obtain ⟨σ', H', J', q⟩ := hsp
    exact wpAny_execs_nil ⟨σ', H', J'.ofTry ok, q⟩
  | brk =>
    obtain ⟨σ', H', J', q⟩ := hsp
    exact ⟨σ', H', J'.ofTry ok, q⟩
  | cont =>
    obtain ⟨σ', H', J', q⟩ := hsp
    exact ⟨σ', H', J'.ofTry ok, q⟩
  | ret u =>
    obtain ⟨v, σ', H', J', r, q⟩ := hsp
    exact ⟨v, σ', H', J'.ofTry ok, r, q⟩
end

/-! ## isinstance of a tracked error -/
/-- isinstance(e, c): e a tracked error of the class at D without a dict -/
def rIsX (K : PySem.W.Frag) : List V → Hp → VK → Prop := fun xs H Q =>
  ∃ (a D : Addr) (c : V) (cv : Value) (b : Bool), xs = [.ref a, c] ∧ H a = some (errO (.ref D) none a) ∧ ExcC K D ∧ (∀ u, RelV c u → u = cv) ∧
    PySem.W.kitOne K (.ref D) cv = some b ∧ Q (.bl b) H
theorem call_isX {X : Cx} : CallR X (.builtin "isinstance") (rIsX X.K) := by
  intro pins s σ H xs us Q I r h
  obtain ⟨a, D, c, cv, b, rfl, ha, C, hcv, e, q⟩ := h
  obtain ⟨u1, u2, rfl, r1, r2⟩ := vals2 r
  cases (show u1 = Value.ref a from r1)
  have ec := hcv _ r2
  subst ec
  obtain ⟨⟨oe, vs, ho, hz, hd⟩, _, _⟩ := I.hok a _ ha
  have J : PySem.W.InstAt s.heap a oe D none := by
    obtain ⟨oc, od, oda, osl⟩ := oe
    obtain ⟨h1, h2⟩ := hz
    dsimp only at h1 h2 hd
    subst h1 h2 hd
    exact ⟨ho, rfl, rfl, trivial⟩
  exact PySem.W.kia_one (PySem.W.handS_kitx_exc C.hg C.hk C.hs C.hd C.ha C.hn C.ht C.hm) I.kIn J e (fun z => nomatch z)
    fun tk => ⟨.bl b, H, I.tok tk, rfl, q⟩

/-! ## list.count of truths -/
def bools (vs : List V) : Option (List Bool) := match vs with
  | [] => some []
  | .bl b :: r => (bools r).map (b :: ·)
  | _ => none
end L2.Own

namespace L2.Own
open PySem PySem.Spec PyProof.Rows

/-! ## enumerate of a tuple -/
abbrev tIt (t : Addr) : Obj := { cls := .type "tuple_iterator", data := .fields #[.ref t, .int 0 0] }
abbrev eIt (a : Addr) : Obj := { cls := .type "enumerate", data := .fields #[.none, .bool false, .ref a, rawInt 0, .none, .none] }
theorem enum_newT (t : Addr) (items : Array Value) :
    Meets (Builtin.«enumerate.__new__» ⟨[.type "enumerate", .ref t], []⟩) (fun _ R s => s.heap.IsTuple t items ∧
      R (.ok (.ret (.ref (s.heap.push (tIt t)).objs.size))) { s with heap := (s.heap.push (tIt t)).push (eIt s.heap.objs.size) }) :=
  .of_wp fun prog w A R s h => by
    obtain ⟨hp, g, d, tk, os⟩ := s
    obtain ⟨hl, h⟩ := h
    have hsub := sub_enumerate
    obtain ⟨ot, ho, hoc, n, hod⟩ := id hl
    have hL : Heap.IsTuple (Shared.heap ⟨hp, g, d, tk, os⟩) t items := hl
    wp_walk using wpAny_loadPart' ho
    refine wpAny_stack_any fun st => wpAny_pure ?_
    split
    · rename_i c _ _ _ _ _
      cases (c == Value.type "enumerate") <;>
        (wp_walk using wpAny_loadPart' ho, wpAny_pyIter_tuple hL
         exact ⟨_, rfl, h⟩)
    · wp_walk using wpAny_loadPart' ho, wpAny_pyIter_tuple hL
      exact ⟨_, rfl, h⟩
section
variable {prog : Program} {w : World} {A : Around} {E : Value → Shared → Prop} {s : Shared}
theorem call_enumT {t : Addr} {items : Array Value} {Q : Value → Shared → Prop} (hL : s.heap.IsTuple t items)
    (h : ∀ h', IsEnum h' (s.heap.objs.size + 1) s.heap.objs.size 0 .none → h'.IsTupleIter s.heap.objs.size t 0 →
      (∀ b o, s.heap.get? b = some o → h'.get? b = some o) → Q (.ref (s.heap.objs.size + 1)) { s with heap := h' }) :
    wpAny (model prog w) A (call (.type "enumerate") [.ref t]) Q E s := by
  refine callType_new F.called_enumerate (by decide) (F.typeCall_enumerate_1 _) (F.newCall_enumerate_1 _) (fun obj => F.args_object_init_2 obj _)
    F.entry_enumerate_new (enum_newT t items) ⟨hL, ?_⟩
  have hz : (s.heap.push (tIt t)).objs.size = s.heap.objs.size + 1 := Heap.size_push ..
  have he : ((s.heap.push (tIt t)).push (eIt s.heap.objs.size)).get? (s.heap.push (tIt t)).objs.size = some (eIt s.heap.objs.size) := Heap.get?_push_size _ rfl
  have hi : ((s.heap.push (tIt t)).push (eIt s.heap.objs.size)).get? s.heap.objs.size = some (tIt t) := Heap.get?_push_of_some _ (Heap.get?_push_size _ rfl)
  show _ ∧ _
  rw [hz]
  rw [hz] at he
  exact ⟨⟨_, he, rfl⟩, h _ he ⟨_, hi, rfl, rfl⟩ fun b o x => Heap.get?_push_of_some _ (Heap.get?_push_of_some _ x)⟩
end
/-- a tuple's items, each in a new pair behind its number -/
def ItE (K : PySem.W.Frag) (a : Addr) : It where
  go := fun i H => ∃ (xs : List V) (x : V), SqT K H a xs ∧ xs[i]? = some x
  yld := fun i H v H' => ∃ T x, v = .ref T ∧ H T = none ∧ H' = upd H T (.tup [.int (i : Nat), x]) ∧ ∀ xs, SqT K H a xs → xs[i]? = some x
  stop := fun i H => ∃ xs : List V, SqT K H a xs ∧ xs.length ≤ i
theorem turn_enumT {P : Program} {w : World} {K : PySem.W.Frag} {elts : List Expr} {kk : Nat} {tpos : Pos} (a e it : Addr) :
    Turn P w K (.Tuple elts kk tpos) (ItE K a) [e, it] e
      (fun i h => (∃ old, IsEnum h e it ((i : Nat) : Int) old) ∧ h.IsTupleIter it a i ∧ e ≠ it ∧ a ≠ it ∧ a ≠ e) where
  mem := List.mem_cons_self
  obj := fun i h st b hb => by
    obtain ⟨⟨old, he⟩, ⟨o, ho, hc, hd⟩, _⟩ := st
    rcases List.mem_cons.mp hb with z | z
    · rw [z]
      exact ⟨_, he, fun v q => nomatch q⟩
    · rw [List.mem_singleton.mp z]
      exact ⟨o, ho, fun v q => by rw [hd] at q; cases q⟩
  keep := fun i h h' st k => by
    obtain ⟨⟨old, he⟩, hi, hne⟩ := st
    exact ⟨⟨old, k e (by simp) _ he⟩, hi.at fun o q => k it (by simp) o q, hne⟩
  item := by
    intro X hP hw hK hc i pins s σ H E I hf st hg
    subst hP hw hK
    obtain ⟨⟨old, he⟩, hit, hne, nai, nae⟩ := st
    obtain ⟨xs, x, hq, hx⟩ := hg
    obtain ⟨its, rv, p, hz⟩ := I.tuple hq
    obtain ⟨u, hu, ru⟩ := rv.get hx
    have hlt : i < its.toArray.size := by
      have q := (List.getElem?_eq_some_iff.mp hu).1
      simpa using q
    have hel : e < s.heap.objs.size := Heap.lt_size he
    have hil : it < s.heap.objs.size := by
      obtain ⟨_, q, _⟩ := hit
      exact Heap.lt_size q
    have D : Draws X.prog X.w X.A.in1 it [it, a] its.toArray.size (fun i v => its.toArray[i]? = some v)
        (fun i h => h.IsTupleIter it a i ∧ h.IsTuple a its.toArray) := Draws.tuple (show X.A.in1.handled = none from I.ok.hd hc) it a nai its.toArray
    refine wpAny_pyNext_enum_itemD D he ⟨hit, p⟩ hlt hne (by simp [hne, Ne.symm nae]) fun y h' tk hy ho hst hT hsz hk => ?_
    have ey : y = u := by
      have q1 : its[i]? = some y := by simpa using hy
      rw [hu] at q1
      exact (Option.some.inj q1).symm
    subst ey
    refine ⟨_, rfl, wpAny_letOwnedTupleGo_enum (s := { s with heap := h', toks := tk + 1 }) ho fun h2 he' sb => ?_⟩
    have hT2 : h2.get? s.heap.objs.size = some { cls := .type "tuple", data := .seq #[.int i tk, y] } := (sb.2 _ (Nat.ne_of_gt hel)).trans hT
    have new : ObjOk X.prog X.w (upd H s.heap.objs.size (.tup [.int (i : Nat), x])) h2 s.heap.objs.size (.tup [.int (i : Nat), x]) :=
      ⟨by show 2 ≤ sizeLine; decide, [.int i tk, y], .cons ⟨_, rfl⟩ (.cons ru .nil), ⟨_, hT2, rfl, _, rfl⟩⟩
    have I1 : Inv X pins σ (upd H s.heap.objs.size (.tup [.int (i : Nat), x])) { s with heap := h2, toks := tk + 1 } := by
      refine I.turnedNew (ch := [e, it]) (fun b ob hb q => ?_) hf (Nat.le_refl _) new
      have nb : b ≠ e ∧ b ≠ it := by simpa using hb
      exact (sb.2 b nb.1).trans (hk b ob nb.1 nb.2 q)
    refine ⟨.ref s.heap.objs.size, _, I1, rfl, ⟨_, x, rfl, I.hok.fresh (Nat.le_refl _), rfl, fun ys hy => ?_⟩, ⟨⟨y, ?_⟩, ?_, hne, nai, nae⟩, fun b hb => ?_⟩
    · rw [I.tuple_inj hy hq]
      exact hx
    · rw [show ((i + 1 : Nat) : Int) = (i : Int) + 1 by omega]
      exact he'
    · exact hst.1.at fun o q => (sb.2 it (Ne.symm hne)).trans q
    · have hb' : b < s.heap.objs.size := by
        rcases List.mem_cons.mp hb with z | z
        · rw [z]
          exact hel
        · rw [List.mem_singleton.mp z]
          exact hil
      rw [upd_ne (Nat.ne_of_lt hb')]
      exact (hf b hb).1
  done := by
    intro X hP hw hK hc i pins s σ H E I hf st hg
    subst hP hw hK
    obtain ⟨⟨old, he⟩, hit, hne, nai, nae⟩ := st
    obtain ⟨xs, hq, hx⟩ := hg
    obtain ⟨its, rv, p, hz⟩ := I.tuple hq
    obtain ⟨f0, f1, f2, f3, f4, f5⟩ := hf it (by simp)
    have hl := rv.length
    have hge : its.toArray[i]? = none := by
      rw [List.getElem?_toArray]
      exact List.getElem?_eq_none (by omega)
    have hT : s.TypeIs (.ref e) "enumerate" := ⟨_, he, rfl⟩
    unfold pyNext
    refine wpAny_bind (wpAny_attempt (wpAny_callSpecial?_slot (name := Str.ofString "__next__") hT F.slot_enumerate_next
      (wpAny_call_entry F.slot_enumerate_next hT F.entry_enumerate_next ?_ (F.args_enumerate_next_1 _))))
    show wpAny _ _ (field (.ref e) 2 >>= _) _ _ _
    refine wpAny_bind (wpAny_field he rfl (x := .ref it) rfl ?_)
    refine wpAny_bind (wpAny_nextOf_tuple_end (I.ok.hd hc) hit p hge fun h' y eb hy => ?_)
    obtain ⟨o, ho, hoc⟩ := hy
    refine wpAny_bind (wpAny_isInstance (T := "StopIteration") (b := true) ⟨o, ho, hoc⟩ isSubtype_stop ?_)
    exact wpAny_pure ⟨rfl, I.turned (t' := s.toks) (fun b o hb q => eb b o hb q) f0 f1 f3 f4 f5⟩
  self := fun A i s Q E st h => let ⟨⟨_, he⟩, _⟩ := st; wpAny_pyIter_enum he h
def iEnumT (K : PySem.W.Frag) (ta : TA) : TI := fun σ H R => ta σ H fun vs H1 => ∃ a xs, vs = [.ref a] ∧ SqT K H1 a xs ∧ R (ItE K a) H1
theorem pi_enumT {X : Cx} {e : Expr} {ta : TA} {p pos tpos : Pos} {elts : List Expr} {kk : Nat} (hg : Gl X "enumerate") (hm : X.mg "enumerate" = none)
    (ha : PA X [e] ta) (hs : starEach [e] X.env = [(false, eval e X.env)] := by rfl) :
    PI X (.Tuple elts kk tpos) (.Call (.Name "enumerate" p) [e] [] pos) (iEnumT X.K ta) := by
  constructor
  intro pins s σ H R I h
  refine Call_ (ld_blt I hg hm boot_enumerate (PyProof.Rows.callWith_type1 (thn (ha.run pos pins s σ H _ I h) fun us s1 q1 => ?_) hs rfl))
  obtain ⟨vs, H1, I1, r1, a, xs, ex, hq, q⟩ := q1
  subst ex
  obtain ⟨u, rfl, ru⟩ := r1.one
  cases (show u = Value.ref a from ru)
  obtain ⟨its, rv, p', hz⟩ := I1.tuple hq
  have hlt : a < s1.heap.objs.size := by
    obtain ⟨o, ho, _⟩ := p'
    exact Heap.lt_size ho
  refine call_enumT (items := its.toArray) p' fun h' he hit hk => wpAny_pyIter_enum he ?_
  refine ⟨s1.heap.objs.size + 1, [s1.heap.objs.size + 1, s1.heap.objs.size], _, _, H1, rfl, I1.kept (t' := s1.toks) hk,
    turn_enumT a (s1.heap.objs.size + 1) s1.heap.objs.size, ⟨⟨.none, he⟩, hit, Nat.succ_ne_self _, Nat.ne_of_lt hlt, Nat.ne_of_lt (Nat.lt_succ_of_lt hlt)⟩,
    fun b hb => ?_, q⟩
  have hle : s1.heap.objs.size ≤ b := by
    rcases List.mem_cons.mp hb with z | z
    · rw [z]
      exact Nat.le_succ _
    · rw [List.mem_singleton.mp z]
      exact Nat.le_refl _
  exact I1.fpOk hle (I1.hok.fresh hle)
theorem walk_enumT {K : PySem.W.Frag} {a : Addr} {xs : List V} : Walk (ItE K a) xs.length (fun H => SqT K H a xs) (YPair (fun i => some (.int (i : Nat))) (fun i => xs[i]?)) := by
  refine ⟨fun i _ hi q => ⟨xs, xs[i], q, by simp [hi]⟩, fun _ q => ⟨xs, q, Nat.le_refl _⟩, fun i H v H' _ q y => ?_⟩
  obtain ⟨T, x, h1, h2, h3, h4⟩ := y
  exact ⟨T, .int (i : Nat), x, h1, h2, h3, rfl, h4 xs q⟩

/-! ## list.count(True) of truths -/
theorem reads_bools {h : Heap} : ∀ {bs : List Bool} {us : List Value}, Vals (bs.map V.bl) us → ∃ as, ReadsAll h us (bs.map PyData.bool) as
  | [], us, r => by
    cases r
    exact ⟨_, .nil⟩
  | b :: r, us, q => by
    cases q with
    | cons ru rr =>
      cases ru
      obtain ⟨as, z⟩ := reads_bools (h := h) rr
      exact ⟨_, .cons (Reads.bool b) z⟩
theorem all_bools : ∀ bs : List Bool, (bs.map PyData.bool).all Shape.bool.has = true
  | [] => rfl
  | b :: r => by
    rw [List.map_cons, List.all_cons, all_bools r]
    rfl
theorem countIn_bools (k : Bool) : ∀ bs : List Bool, countIn (.bool k) (bs.map PyData.bool) = ((bs.count k : Nat) : Int)
  | [] => rfl
  | b :: r => by
    rw [List.map_cons, countIn, countIn_bools k r, List.count_cons]
    cases b <;> cases k <;> simp [same] <;> omega
def rCntB (K : PySem.W.Frag) : V → List V → Hp → VK → Prop := fun x xs H Q =>
  ∃ (p : Addr) (bs : List Bool) (k : Bool), x = .ref p ∧ xs = [.bl k] ∧ SqL K H p (bs.map V.bl) ∧ Q (.int (bs.count k : Nat)) H
theorem mt_bcount {X : Cx} : MtR X "list.count" (rCntB X.K) := by
  intro pins s σ H x xs v us Q I rx rxs h
  obtain ⟨p, bs, k, rfl, rfl, hs, q⟩ := h
  cases rx
  obtain ⟨u, rfl, ru⟩ := rxs.one
  cases ru
  obtain ⟨its, rv, pl, hlen⟩ := I.list hs
  obtain ⟨as, ra⟩ := reads_bools (h := s.heap) rv
  refine count_list_bools pl.isList ra (all_bools bs) ?_
  rw [countIn_bools]
  exact ⟨.int (bs.count k : Nat), H, I.tok _, ⟨s.toks, rfl⟩, q⟩
end L2.Own

namespace Sl
open PySem PySem.Spec PyProof.Rows L2

/-! ## heaps: all but p as it was -/
def But (p : Addr) (H H' : Hp) : Prop := ∀ b o, b ≠ p → H b = some o → H' b = some o
theorem But.refl (p : Addr) (H : Hp) : But p H H := fun _ _ _ h => h
theorem But.trans {p : Addr} {H H1 H2 : Hp} (a : But p H H1) (b : But p H1 H2) : But p H H2 := fun c o n h => b c o n (a c o n h)
theorem But.of {p : Addr} {H H' : Hp} (s : Same H H') : But p H H' := fun b o _ h => s b o h
theorem same_new {H : Hp} {p : Addr} {o : HO} (hp : H p = none) : Same H (upd H p o) := fun b u e => by
  rw [upd_ne (ne_of_none e hp)]
  exact e
theorem But.upd {p : Addr} {H : Hp} {o : HO} : But p H (L2.upd H p o) := fun b u n e => by
  rw [upd_ne n]
  exact e
/-- tuples stay -/
def Tups (H H' : Hp) : Prop := ∀ b xs, H b = some (.tup xs) → H' b = some (.tup xs)
theorem Tups.refl (H : Hp) : Tups H H := fun _ _ h => h
theorem Tups.trans {H H1 H2 : Hp} (a : Tups H H1) (b : Tups H1 H2) : Tups H H2 := fun c o h => b c o (a c o h)
theorem Tups.of {H H' : Hp} (s : Same H H') : Tups H H' := fun b o h => s b _ h
theorem Tups.but {p : Addr} {H H' : Hp} {xs : List V} (hp : H p = some (.lst xs)) (s : But p H H') : Tups H H' := fun b o h => s b _ (fun e => by
  rw [e, hp] at h
  cases h) h
theorem Tups.put {p : Addr} {H : Hp} {xs : List V} {o : HO} (hp : H p = some (.lst xs)) : Tups H (L2.upd H p o) := Tups.but hp But.upd
/-- a list of one whole number, from which is drawn -/
def PoolAt (H : Hp) (p : Addr) : Prop := ∃ n : Int, H p = some (.lst [.int n])
theorem PoolAt.same {H H' : Hp} {p : Addr} (s : Same H H') (h : PoolAt H p) : PoolAt H' p := let ⟨n, e⟩ := h; ⟨n, s _ _ e⟩
theorem PoolAt.new {H : Hp} {p q : Addr} {o : HO} (hq : H q = none) (h : PoolAt H p) : PoolAt (L2.upd H q o) p := h.same (same_new hq)

/-! ## a list that a comprehension makes -/
structure LcAt (H : Hp) (D : Addr) (H' : Hp) (xs : List V) : Prop where
  it : H' D = some (.lst xs)
  same : Same H H'
  new : H D = none
theorem LcAt.start {H : Hp} {D : Addr} (h : H D = none) : LcAt H D (L2.upd H D (.lst [])) [] := ⟨upd_same, same_new h, h⟩
theorem LcAt.keep {H H' H4 : Hp} {D : Addr} {xs : List V} (h : LcAt H D H' xs) (s : Same H' H4) : LcAt H D H4 xs := ⟨s _ _ h.it, h.same.trans s, h.new⟩
theorem LcAt.push {H H' : Hp} {D : Addr} {xs : List V} {y : V} (h : LcAt H D H' xs) : LcAt H D (L2.upd H' D (.lst (xs ++ [y]))) (xs ++ [y]) :=
  ⟨upd_same, fun b o e => by
    rw [upd_ne (ne_of_none e h.new)]
    exact h.same b o e, h.new⟩
/-- the same while something is drawn from the list at p -/
structure LcP (p : Addr) (H : Hp) (D : Addr) (H' : Hp) (xs : List V) : Prop where
  it : H' D = some (.lst xs)
  but : But p H H'
  new : H D = none
  pool : PoolAt H' p
  ne : D ≠ p
theorem LcP.start {p : Addr} {H : Hp} {D : Addr} (h : H D = none) (hp : PoolAt H p) : LcP p H D (L2.upd H D (.lst [])) [] :=
  ⟨upd_same, But.of (same_new h), h, hp.new h, fun e => by
    obtain ⟨n, q⟩ := hp
    rw [e, q] at h
    cases h⟩
theorem LcP.keep {p : Addr} {H H' H4 : Hp} {D : Addr} {xs : List V} (h : LcP p H D H' xs) (s : But p H' H4) (q : PoolAt H4 p) : LcP p H D H4 xs := ⟨s _ _ h.ne h.it, h.but.trans s, h.new, q, h.ne⟩
theorem LcP.push {p : Addr} {H H' : Hp} {D : Addr} {xs : List V} {y : V} (h : LcP p H D H' xs) : LcP p H D (L2.upd H' D (.lst (xs ++ [y]))) (xs ++ [y]) :=
  ⟨upd_same, fun b o n e => by
    rw [upd_ne (ne_of_none e h.new)]
    exact h.but b o n e, h.new, by
    obtain ⟨m, q⟩ := h.pool
    exact ⟨m, by rw [upd_ne (Ne.symm h.ne)]; exact q⟩, h.ne⟩
theorem small {n : Nat} (h : n ≤ 100000) : n < sizeLine := Nat.lt_of_le_of_lt h (by decide)
theorem smallE {n : Nat} (h : n ≤ 100000) : n ≤ sizeLine := Nat.le_of_lt (small h)

/-! ## shades -/
def isSh (z : Str) : Bool := decide (1 ≤ z.cps.size ∧ z.cps.size ≤ 3) && z.cps.toList.all fun c => decide (97 ≤ c ∧ c ≤ 122)
def shV : V → Bool
  | .str z => isSh z
  | _ => false
theorem isSh_size {z : Str} (h : isSh z = true) : 1 ≤ z.cps.size ∧ z.cps.size ≤ 3 := by
  have h1 := (Bool.and_eq_true_iff.mp h).1
  exact of_decide_eq_true h1
theorem isSh_len {z : Str} (h : isSh z = true) : z.cps.size ≤ sizeLine := Nat.le_trans (isSh_size h).2 (by decide)
/-- a thing of one of the kinds that stand in the laws -/
inductive Th (H : Hp) : V → Prop where
  | non : Th H .non
  | bl (b : Bool) : Th H (.bl b)
  | int (i : Int) : Th H (.int i)
  | str (z : Str) (h : z.cps.size ≤ sizeLine) : Th H (.str z)
  | lst {a : Addr} {xs : List V} (h : H a = some (.lst xs)) : Th H (.ref a)
  | tup {a : Addr} {xs : List V} (h : H a = some (.tup xs)) : Th H (.ref a)
  | dic {a : Addr} {kvs : List (Key × V)} (h : H a = some (.dK kvs)) : Th H (.ref a)
theorem Th.same {H H' : Hp} {v : V} (s : Same H H') (h : Th H v) : Th H' v := by
  cases h with
  | non => exact .non
  | bl b => exact .bl b
  | int i => exact .int i
  | str z h => exact .str z h
  | lst h => exact .lst (s _ _ h)
  | tup h => exact .tup (s _ _ h)
  | dic h => exact .dic (s _ _ h)

/-! ## stripes as they lie in the heap -/
def Prs (H : Hp) : List V → List (Str × Nat) → Prop
  | [], [] => True
  | v :: vs, s :: l => (∃ a, v = .ref a ∧ H a = some (.tup [.str s.1, .int (s.2 : Nat)])) ∧ Prs H vs l
  | _, _ => False
theorem Prs.mono {H H' : Hp} (t : Tups H H') : ∀ {vs : List V} {l : List (Str × Nat)}, Prs H vs l → Prs H' vs l
  | [], [], _ => True.intro
  | [], _ :: _, h => h
  | _ :: _, [], h => h
  | v :: vs, s :: l, ⟨⟨a, e, h⟩, r⟩ => ⟨⟨a, e, t _ _ h⟩, Prs.mono t r⟩
theorem Prs.length {H : Hp} : ∀ {vs : List V} {l : List (Str × Nat)}, Prs H vs l → vs.length = l.length
  | [], [], _ => rfl
  | [], _ :: _, h => h.elim
  | _ :: _, [], h => h.elim
  | v :: vs, s :: l, ⟨_, r⟩ => congrArg Nat.succ (Prs.length r)
theorem Prs.get {H : Hp} : ∀ {vs : List V} {l : List (Str × Nat)} {i : Nat} {v : V}, Prs H vs l → vs[i]? = some v → ∃ a z n, v = .ref a ∧ l[i]? = some (z, n) ∧ H a = some (.tup [.str z, .int (n : Nat)])
  | [], [], i, v, _, e => by simp at e
  | [], _ :: _, _, _, h, _ => h.elim
  | _ :: _, [], _, _, h, _ => h.elim
  | u :: vs, s :: l, 0, v, ⟨⟨a, e, h⟩, r⟩, q => by
    have q' : u = v := by simpa using q
    subst q'
    exact ⟨a, s.1, s.2, e, rfl, h⟩
  | u :: vs, s :: l, i + 1, v, ⟨_, r⟩, q => by
    obtain ⟨a, z, n, e1, e2, e3⟩ := Prs.get (i := i) (v := v) r (by simpa using q)
    exact ⟨a, z, n, e1, by simpa using e2, e3⟩
theorem Prs.at {H : Hp} {vs : List V} {l : List (Str × Nat)} {i : Nat} {z : Str} {n : Nat} (h : Prs H vs l) (e : l[i]? = some (z, n)) : ∃ a, vs[i]? = some (.ref a) ∧ H a = some (.tup [.str z, .int (n : Nat)]) := by
  have hi : i < l.length := (List.getElem?_eq_some_iff.mp e).1
  have hv : i < vs.length := by rw [h.length]; exact hi
  obtain ⟨a, z', n', e1, e2, e3⟩ := h.get (List.getElem?_eq_getElem hv)
  rw [e] at e2
  cases e2
  exact ⟨a, by rw [List.getElem?_eq_getElem hv, e1], e3⟩
theorem Prs.snoc {H : Hp} {a : Addr} {z : Str} {n : Nat} (ha : H a = some (.tup [.str z, .int (n : Nat)])) : ∀ {vs : List V} {l : List (Str × Nat)}, Prs H vs l → Prs H (vs ++ [.ref a]) (l ++ [(z, n)])
  | [], [], _ => ⟨⟨a, rfl, ha⟩, True.intro⟩
  | [], _ :: _, h => h.elim
  | _ :: _, [], h => h.elim
  | v :: vs, s :: l, ⟨q, r⟩ => ⟨q, Prs.snoc ha r⟩
theorem Prs.set {H : Hp} {a : Addr} {z : Str} {n : Nat} (ha : H a = some (.tup [.str z, .int (n : Nat)])) : ∀ {vs : List V} {l : List (Str × Nat)} {j : Nat}, Prs H vs l → Prs H (vs.set j (.ref a)) (l.set j (z, n))
  | [], [], _, _ => True.intro
  | [], _ :: _, _, h => h.elim
  | _ :: _, [], _, h => h.elim
  | v :: vs, s :: l, 0, ⟨q, r⟩ => ⟨⟨a, rfl, ha⟩, r⟩
  | v :: vs, s :: l, j + 1, ⟨q, r⟩ => ⟨q, Prs.set ha r⟩

theorem Prs.snoc_of {H : Hp} {ps : List V} {m : List (Str × Nat)} {z : Str} {n : Nat} (h : Prs H ps (m ++ [(z, n)])) : ∃ qs a, ps = qs ++ [.ref a] ∧ Prs H qs m ∧ H a = some (.tup [.str z, .int (n : Nat)]) := by
  induction m generalizing ps with
  | nil =>
    match ps, h with
    | [v], ⟨⟨a, e, h1⟩, _⟩ => exact ⟨[], a, by rw [e]; rfl, True.intro, h1⟩
  | cons s m ih =>
    match ps, h with
    | v :: ps, ⟨q, r⟩ =>
      obtain ⟨qs, a, e1, e2, e3⟩ := ih r
      exact ⟨v :: qs, a, by rw [e1]; rfl, ⟨q, e2⟩, e3⟩
/-- the list at l, made anew, changed by place and behind -/
theorem LcAt.to {H H' : Hp} {D : Addr} {xs ys : List V} (h : LcAt H D H' xs) : LcAt H D (L2.upd H' D (.lst ys)) ys :=
  ⟨upd_same, fun b o e => by
    rw [upd_ne (ne_of_none e h.new)]
    exact h.same b o e, h.new⟩

/-! ## threads of stripes, and the fewest stripes of threads -/
def expand (l : List (Str × Nat)) : List Str := l.flatMap fun s => List.replicate s.2 s.1
def total (l : List (Str × Nat)) : Nat := (l.map (·.2)).sum
theorem expand_length : ∀ l : List (Str × Nat), (expand l).length = total l
  | [] => rfl
  | s :: l => by
    show (List.replicate s.2 s.1 ++ expand l).length = s.2 + total l
    rw [List.length_append, List.length_replicate, expand_length l]
theorem expand_append (l m : List (Str × Nat)) : expand (l ++ m) = expand l ++ expand m := by simp [expand]
theorem total_append (l m : List (Str × Nat)) : total (l ++ m) = total l + total m := by simp [total]
theorem expand_one (z : Str) (n : Nat) : expand [(z, n)] = List.replicate n z := by simp [expand]
theorem total_one (z : Str) (n : Nat) : total [(z, n)] = n := by simp [total]
theorem expand_mem {l : List (Str × Nat)} {z : Str} (h : z ∈ expand l) : ∃ n, (z, n) ∈ l := by
  obtain ⟨s, hs, hz⟩ := List.mem_flatMap.mp h
  have e := List.eq_of_mem_replicate hz
  subst e
  exact ⟨s.2, hs⟩
/-- one more thread behind stripes -/
def grow (l : List (Str × Nat)) (z : Str) : List (Str × Nat) := match l.getLast? with
  | some (y, n) => if y = z then l.dropLast ++ [(z, n + 1)] else l ++ [(z, 1)]
  | none => [(z, 1)]
def groups (zs : List Str) : List (Str × Nat) := zs.foldl grow []
theorem snoc_of_last {α : Type} {l : List α} {x : α} (h : l.getLast? = some x) : l = l.dropLast ++ [x] := by
  rcases List.eq_nil_or_concat l with e | ⟨m, y, e⟩
  · subst e
    simp at h
  · subst e
    simp at h
    subst h
    simp
theorem grow_expand (l : List (Str × Nat)) (z : Str) : expand (grow l z) = expand l ++ [z] := by
  unfold grow
  split
  · rename_i y n e
    have el := snoc_of_last e
    split
    · rename_i q
      subst q
      rw [expand_append, expand_one, List.replicate_succ']
      conv => rhs; rw [el, expand_append, expand_one]
      simp
    · rw [expand_append, expand_one]
      rfl
  · rename_i e
    have el : l = [] := List.getLast?_eq_none_iff.mp e
    subst el
    rfl
theorem foldl_grow_expand : ∀ (zs : List Str) (l : List (Str × Nat)), expand (zs.foldl grow l) = expand l ++ zs
  | [], l => by simp
  | z :: zs, l => by
    rw [List.foldl_cons, foldl_grow_expand zs, grow_expand]
    simp
theorem groups_expand (zs : List Str) : expand (groups zs) = zs := by
  unfold groups
  rw [foldl_grow_expand]
  rfl
/-- neighbours of unlike shades, counts from one on -/
def Apart : List (Str × Nat) → Prop
  | [] => True
  | [_] => True
  | s :: t :: l => s.1 ≠ t.1 ∧ Apart (t :: l)
theorem Apart.get : ∀ {l : List (Str × Nat)} {i : Nat} {s t : Str × Nat}, Apart l → l[i]? = some s → l[i + 1]? = some t → s.1 ≠ t.1
  | [], _, _, _, _, e, _ => by simp at e
  | [_], i, _, _, _, _, e => by simp at e
  | a :: b :: l, 0, s, t, h, e1, e2 => by
    have q1 : a = s := by simpa using e1
    have q2 : b = t := by simpa using e2
    subst q1 q2
    exact h.1
  | a :: b :: l, i + 1, s, t, h, e1, e2 => Apart.get (l := b :: l) (i := i) h.2 (by simpa using e1) (by simpa using e2)
theorem Apart.snoc : ∀ {l : List (Str × Nat)} {t : Str × Nat}, Apart l → (∀ s, l.getLast? = some s → s.1 ≠ t.1) → Apart (l ++ [t])
  | [], _, _, _ => True.intro
  | [a], t, _, h => ⟨h a rfl, True.intro⟩
  | a :: b :: l, t, q, h => ⟨q.1, Apart.snoc (l := b :: l) q.2 fun s e => h s (by rw [List.getLast?_cons_cons]; exact e)⟩
theorem Apart.init : ∀ {l : List (Str × Nat)} {t : Str × Nat}, Apart (l ++ [t]) → Apart l
  | [], _, _ => True.intro
  | [a], _, _ => True.intro
  | a :: b :: l, t, q => ⟨q.1, Apart.init (l := b :: l) q.2⟩
theorem Apart.last : ∀ {l : List (Str × Nat)} {t s : Str × Nat}, Apart (l ++ [t]) → l.getLast? = some s → s.1 ≠ t.1
  | [], _, _, _, e => by simp at e
  | [a], t, s, q, e => by
    have : a = s := by simpa using e
    subst this
    exact q.1
  | a :: b :: l, t, s, q, e => Apart.last (l := b :: l) q.2 (by rw [List.getLast?_cons_cons] at e; exact e)
theorem grow_apart {l : List (Str × Nat)} {z : Str} (h : Apart l) : Apart (grow l z) := by
  unfold grow
  split
  · rename_i y n e
    have el := snoc_of_last e
    split
    · rename_i q
      subst q
      have h' : Apart (l.dropLast ++ [(y, n)]) := by rw [← el]; exact h
      exact Apart.snoc h'.init fun s hs => h'.last hs
    · rename_i q
      exact Apart.snoc h fun s hs => by
        rw [e] at hs
        cases hs
        exact q
  · exact True.intro
def Pos (l : List (Str × Nat)) : Prop := ∀ s ∈ l, 1 ≤ s.2
theorem grow_pos {l : List (Str × Nat)} {z : Str} (h : Pos l) : Pos (grow l z) := by
  unfold grow
  split
  · rename_i y n e
    split
    · intro s hs
      rcases List.mem_append.mp hs with q | q
      · exact h s (List.dropLast_subset _ q)
      · rw [List.mem_singleton.mp q]
        exact Nat.le_add_left _ _
    · intro s hs
      rcases List.mem_append.mp hs with q | q
      · exact h s q
      · rw [List.mem_singleton.mp q]
        exact Nat.le_refl _
  · intro s hs
    rw [List.mem_singleton.mp hs]
    exact Nat.le_refl _
theorem foldl_apart : ∀ (zs : List Str) {l : List (Str × Nat)}, Apart l → Pos l → Apart (zs.foldl grow l) ∧ Pos (zs.foldl grow l)
  | [], _, h, p => ⟨h, p⟩
  | z :: zs, _, h, p => foldl_apart zs (grow_apart h) (grow_pos p)
theorem groups_apart (zs : List Str) : Apart (groups zs) := (foldl_apart zs (l := []) True.intro fun _ h => nomatch h).1
theorem groups_pos (zs : List Str) : Pos (groups zs) := (foldl_apart zs (l := []) True.intro fun _ h => nomatch h).2
theorem Pos.length_le : ∀ {l : List (Str × Nat)}, Pos l → l.length ≤ total l
  | [], _ => Nat.le_refl _
  | s :: l, h => by
    have h1 := h s List.mem_cons_self
    have h2 := Pos.length_le (l := l) fun t ht => h t (List.mem_cons_of_mem _ ht)
    show l.length + 1 ≤ s.2 + total l
    omega
theorem groups_total (zs : List Str) : total (groups zs) = zs.length := by rw [← expand_length, groups_expand]
theorem groups_length (zs : List Str) : (groups zs).length ≤ zs.length := by
  have h := (groups_pos zs).length_le
  rw [groups_total] at h
  exact h
theorem groups_mem {zs : List Str} {s : Str × Nat} (h : s ∈ groups zs) : s.1 ∈ zs := by
  have hp := groups_pos zs s h
  have hm : s.1 ∈ expand (groups zs) := List.mem_flatMap.mpr ⟨s, h, List.mem_replicate.mpr ⟨by omega, rfl⟩⟩
  rw [groups_expand] at hm
  exact hm
theorem groups_snoc (zs : List Str) (z : Str) : groups (zs ++ [z]) = grow (groups zs) z := by
  unfold groups
  rw [List.foldl_append]
  rfl
theorem groups_nonempty {zs : List Str} (h : zs ≠ []) : groups zs ≠ [] := fun e => h (by rw [← groups_expand zs, e]; rfl)
theorem take_more {α : Type} {l : List α} {i : Nat} {x : α} (h : l[i]? = some x) : l.take (i + 1) = l.take i ++ [x] := by
  rw [List.take_add_one, h]
  rfl
end Sl

namespace L2.Own
open PySem PySem.Spec PyProof.Rows
section
variable {J : It} {n : Nat} {G : Hp → Prop} {Y : Nat → Hp → V → Hp → Prop}
/-- a walk within a comprehension's turn, from any heap -/
theorem lc_in (w : Walk J n G Y) {g : TG} {tt : TT} {te : TE} {vs : List Nat} {σ : St} {H1 : Hp} {D : Addr} {Qd : Hp → Prop} (Pv : Nat → Hp → Prop) (h0 : Pv 0 H1) (hG : ∀ i H, i ≤ n → Pv i H → G H)
    (hs : ∀ i x H H', i < n → Pv i H → Y i H x H' → g x (wipe σ vs) H' fun σ2 H2 => wipe σ2 vs = wipe σ vs ∧ tt σ2 H2 fun b H3 =>
      if b = true then te σ2 H3 fun y H4 => ∃ acc, H4 D = some (.lst acc) ∧ acc.length < sizeLine ∧ Pv (i + 1) (upd H4 D (.lst (acc ++ [y]))) else Pv (i + 1) H3) (hd : ∀ H, Pv n H → Qd H) :
    ∃ W : Nat → Nat → Hp → Prop, (∃ m, W 0 m H1) ∧ ∀ i m H, W i m H →
      (J.stop i H ∧ Qd H) ∨ (J.go i H ∧ ∃ Nx : Hp → Prop, (∀ H', Nx H' → ∃ m', m' < m ∧ W (i + 1) m' H') ∧ ∀ x H', J.yld i H x H' → g x (wipe σ vs) H' fun σ2 H2 => wipe σ2 vs = wipe σ vs ∧ tt σ2 H2 fun b H3 =>
        if b = true then te σ2 H3 fun y H4 => ∃ acc, H4 D = some (.lst acc) ∧ acc.length < sizeLine ∧ Nx (upd H4 D (.lst (acc ++ [y]))) else Nx H3) := by
  refine ⟨fun i m H => m = n - i ∧ i ≤ n ∧ Pv i H, ⟨n, by simp, Nat.zero_le _, h0⟩, ?_⟩
  rintro i m H ⟨rfl, hi, p⟩
  have q := hG i H hi p
  by_cases hlt : i < n
  · refine .inr ⟨w.goes i H hlt q, Pv (i + 1), fun H' p' => ⟨n - (i + 1), by omega, rfl, hlt, p'⟩, fun x H' y => hs i x H H' hlt p (w.yields i H x H' hlt q y)⟩
  · have e : i = n := by omega
    subst e
    exact .inl ⟨w.stops H q, hd H p⟩
/-- a comprehension with two fors, the outer walk: Pv by its turn and the heap -/
theorem lc2_it (w : Walk J n G Y) {g : TG} {tt : TT} {wi1 : TI} {g1 : TG} {tt1 : TT} {te : TE} {vs vs1 : List Nat} {σ : St} {H1 : Hp} {D : Addr} {Qd : Hp → Prop} (Pv : Nat → Hp → Prop) (h0 : Pv 0 (upd H1 D (.lst []))) (hG : ∀ i H, i ≤ n → Pv i H → G H)
    (hs : ∀ i x H H', i < n → Pv i H → Y i H x H' → g x (wipe σ vs) H' fun σ2 H2 => wipe σ2 vs = wipe σ vs ∧ tt σ2 H2 fun b H3 =>
      if b = true then wi1 σ2 H3 fun J1 H4 => ∃ W1 : Nat → Nat → Hp → Prop, (∃ m, W1 0 m H4) ∧ ∀ j k H, W1 j k H →
        (J1.stop j H ∧ Pv (i + 1) H) ∨ (J1.go j H ∧ ∃ Nx1 : Hp → Prop, (∀ H', Nx1 H' → ∃ k', k' < k ∧ W1 (j + 1) k' H') ∧ ∀ x H', J1.yld j H x H' → g1 x (wipe σ2 vs1) H' fun σ3 H5 => wipe σ3 vs1 = wipe σ2 vs1 ∧ tt1 σ3 H5 fun b H6 =>
          if b = true then te σ3 H6 fun y H7 => ∃ acc, H7 D = some (.lst acc) ∧ acc.length < sizeLine ∧ Nx1 (upd H7 D (.lst (acc ++ [y]))) else Nx1 H6)
      else Pv (i + 1) H3) (hd : ∀ H, Pv n H → Qd H) :
    ∃ W : Nat → Nat → Hp → Prop, (∃ m, W 0 m (upd H1 D (.lst []))) ∧ ∀ i m H, W i m H →
      (J.stop i H ∧ Qd H) ∨ (J.go i H ∧ ∃ Nx : Hp → Prop, (∀ H', Nx H' → ∃ m', m' < m ∧ W (i + 1) m' H') ∧ ∀ x H', J.yld i H x H' → g x (wipe σ vs) H' fun σ2 H2 => wipe σ2 vs = wipe σ vs ∧ tt σ2 H2 fun b H3 =>
        if b = true then wi1 σ2 H3 fun J1 H4 => ∃ W1 : Nat → Nat → Hp → Prop, (∃ m, W1 0 m H4) ∧ ∀ j k H, W1 j k H →
          (J1.stop j H ∧ Nx H) ∨ (J1.go j H ∧ ∃ Nx1 : Hp → Prop, (∀ H', Nx1 H' → ∃ k', k' < k ∧ W1 (j + 1) k' H') ∧ ∀ x H', J1.yld j H x H' → g1 x (wipe σ2 vs1) H' fun σ3 H5 => wipe σ3 vs1 = wipe σ2 vs1 ∧ tt1 σ3 H5 fun b H6 =>
            if b = true then te σ3 H6 fun y H7 => ∃ acc, H7 D = some (.lst acc) ∧ acc.length < sizeLine ∧ Nx1 (upd H7 D (.lst (acc ++ [y]))) else Nx1 H6)
        else Nx H3) := by
  refine ⟨fun i m H => m = n - i ∧ i ≤ n ∧ Pv i H, ⟨n, by simp, Nat.zero_le _, h0⟩, ?_⟩
  rintro i m H ⟨rfl, hi, p⟩
  have q := hG i H hi p
  by_cases hlt : i < n
  · refine .inr ⟨w.goes i H hlt q, Pv (i + 1), fun H' p' => ⟨n - (i + 1), by omega, rfl, hlt, p'⟩, fun x H' y => hs i x H H' hlt p (w.yields i H x H' hlt q y)⟩
  · have e : i = n := by omega
    subst e
    exact .inl ⟨w.stops H q, hd H p⟩
end
end L2.Own
namespace L2.Own
open PySem PySem.Spec PyProof.Rows
/-! the rules whose reading names the written part, with that part told: for the elements of comprehensions -/
section
variable {X : Cx} {K : PySem.W.Frag}
theorem op_notIn_seqK (h : X.K = K) : OpR X (compareOp .NotIn) (rIn K true) := h ▸ op_notIn_seq
theorem op_in_seqK (h : X.K = K) : OpR X (compareOp .In) (rIn K false) := h ▸ op_in_seq
theorem ix_listK (h : X.K = K) : IxR X (rIxL K) := h ▸ ix_list
theorem ix_tupK (h : X.K = K) : IxR X (rIxT K) := h ▸ ix_tup
end
end L2.Own

namespace L2.Own
open PySem PySem.Spec PyProof.Rows Sl
section
variable {X : Cx} {K : PySem.W.Frag}
theorem op_catAK (h : X.K = K) : OpR X (binaryOp .Add) (rCatA K) := h ▸ op_catA
theorem call_lenK (h : X.K = K) : CallR X (.builtin "len") (fun xs H Q => ∃ x n, xs = [x] ∧ LenV K x H n ∧ Q (.int n) H) := h ▸ call_len
theorem sl_tupAK (h : X.K = K) : SlR X (rSlA K) := h ▸ sl_tupA
end
section
variable {K : PySem.W.Frag} {H : Hp} {a b : Addr} {xs ys : List V} {Q : VK}
theorem cutV_whole {lo hi : Option Int} (h : HT.sIx xs.length 0 lo = 0 ∧ HT.sIx xs.length xs.length hi = xs.length) : cutV xs lo hi = xs := by
  unfold cutV
  rw [h.1, h.2, List.drop_zero, Nat.sub_zero, List.take_length]
/-- t[lo:hi], be it t itself or a new one -/
theorem slA_of {lo hi : Option Int} (ha : H a = some (.tup xs)) (q : ∀ H' r, Same H H' → H' r = some (.tup (cutV xs lo hi)) → Q (.ref r) H') : rSlA K (.ref a) lo hi H Q :=
  ⟨a, xs, rfl, SqT.of ha, fun h => q H a (Same.refl H) (by rw [cutV_whole h]; exact ha), fun _ p hp => q _ p (same_new hp) upd_same⟩
/-- t + u, be it one of them or a new one -/
theorem catA_of (ha : H a = some (.tup xs)) (hb : H b = some (.tup ys)) (hz : xs.length + ys.length ≤ sizeLine) (q : ∀ H' r, Same H H' → H' r = some (.tup (xs ++ ys)) → Q (.ref r) H') : rCatA K (.ref a) (.ref b) H Q :=
  ⟨a, b, xs, ys, rfl, rfl, SqT.of ha, SqT.of hb, hz, fun e => q H b (Same.refl H) (by rw [e]; exact hb), fun _ e => q H a (Same.refl H) (by rw [e, List.append_nil]; exact ha), fun _ _ p hp => q _ p (same_new hp) upd_same⟩
end
end L2.Own
namespace Sl
open PySem PySem.Spec PyProof.Rows L2
/-! ## kinds stay -/
structure Kin (H H' : Hp) : Prop where
  tup : ∀ a xs, H a = some (.tup xs) → H' a = some (.tup xs)
  lst : ∀ a xs, H a = some (.lst xs) → ∃ ys, H' a = some (.lst ys)
  dic : ∀ a kvs, H a = some (.dK kvs) → ∃ ks, H' a = some (.dK ks)
theorem Kin.of {H H' : Hp} (s : Same H H') : Kin H H' := ⟨fun a xs h => s _ _ h, fun a xs h => ⟨xs, s _ _ h⟩, fun a k h => ⟨k, s _ _ h⟩⟩
theorem Kin.trans {H H1 H2 : Hp} (a : Kin H H1) (b : Kin H1 H2) : Kin H H2 :=
  ⟨fun c xs h => b.tup _ _ (a.tup _ _ h), fun c xs h => let ⟨ys, q⟩ := a.lst _ _ h; b.lst _ _ q, fun c xs h => let ⟨ys, q⟩ := a.dic _ _ h; b.dic _ _ q⟩
theorem Kin.put {H : Hp} {p : Addr} {xs ys : List V} (h : H p = some (.lst xs)) : Kin H (L2.upd H p (.lst ys)) := by
  refine ⟨fun a zs e => ?_, fun a zs e => ?_, fun a zs e => ?_⟩
  · rw [upd_ne (fun q => by rw [q, h] at e; cases e)]
    exact e
  · by_cases q : a = p
    · rw [q]
      exact ⟨ys, upd_same⟩
    · exact ⟨zs, by rw [upd_ne q]; exact e⟩
  · rw [upd_ne (fun q => by rw [q, h] at e; cases e)]
    exact ⟨zs, e⟩
theorem Kin.but {H H' : Hp} {p : Addr} (hp : PoolAt H p) (hp' : PoolAt H' p) (b : But p H H') : Kin H H' := by
  obtain ⟨n, h⟩ := hp
  obtain ⟨n', h'⟩ := hp'
  refine ⟨fun a zs e => ?_, fun a zs e => ?_, fun a zs e => ?_⟩
  · exact b _ _ (fun q => by rw [q, h] at e; cases e) e
  · by_cases q : a = p
    · rw [q]
      exact ⟨_, h'⟩
    · exact ⟨zs, b _ _ q e⟩
  · exact ⟨zs, b _ _ (fun q => by rw [q, h] at e; cases e) e⟩
theorem Th.kin {H H' : Hp} {v : V} (s : Kin H H') (h : Th H v) : Th H' v := by
  cases h with
  | non => exact .non
  | bl b => exact .bl b
  | int i => exact .int i
  | str z h => exact .str z h
  | lst h =>
    obtain ⟨ys, q⟩ := s.lst _ _ h
    exact .lst q
  | tup h => exact .tup (s.tup _ _ h)
  | dic h =>
    obtain ⟨ys, q⟩ := s.dic _ _ h
    exact .dic q
end Sl

namespace L2.Own
open PySem PySem.Spec PyProof.Rows Sl
/-! ## t[::-1] of a tuple -/
theorem rev_places (n : Nat) : Builtin.Slice.sliceAdjust none none (-1) (n : Int) = ((n : Int) - 1, -1) ∧ Builtin.Slice.slicePlaces ((n : Int) - 1) (-1) (-1) = n := by
  constructor
  · rfl
  · unfold Builtin.Slice.slicePlaces
    rw [if_neg (by decide)]
    by_cases h : (n : Int) - 1 > -1
    · rw [if_pos h, show (- -1 : Int) = 1 by decide, Int.ediv_one]; omega
    · rw [if_neg h]; omega
theorem fm_congr {α β : Type} {f g : α → Option β} : ∀ {l : List α}, (∀ a ∈ l, f a = g a) → l.filterMap f = l.filterMap g
  | [], _ => rfl
  | a :: l, h => by
    rw [List.filterMap_cons, List.filterMap_cons, h a List.mem_cons_self, fm_congr fun b hb => h b (List.mem_cons_of_mem _ hb)]
theorem rev_pick (xs : Array Value) : ((List.range xs.size).filterMap fun (k : Nat) => xs[((xs.size : Int) - 1 + (k : Int) * -1).toNat]?) = xs.toList.reverse := by
  have e : ((List.range xs.size).filterMap fun (k : Nat) => xs[((xs.size : Int) - 1 + (k : Int) * -1).toNat]?) = (List.range xs.size).filterMap fun k => xs.toList.reverse[k]? := by
    refine fm_congr fun k hk => ?_
    have hk' := List.mem_range.mp hk
    rw [List.getElem?_reverse (by rw [Array.length_toList]; exact hk'), Array.length_toList, Array.getElem?_toList]
    congr 1
    omega
  rw [e]
  have hl : xs.size = xs.toList.reverse.length := by rw [List.length_reverse, Array.length_toList]
  rw [hl]
  generalize xs.toList.reverse = ys
  induction ys with
  | nil => rfl
  | cons y ys ih =>
    rw [List.length_cons, List.range_succ_eq_map, List.filterMap_cons, List.filterMap_map]
    have e2 : ((fun k => (y :: ys)[k]?) ∘ Nat.succ) = fun k => ys[k]? := rfl
    rw [e2, ih]
    rfl
section
variable {prog : Program} {w : World} {A : Around} {E : Value → Shared → Prop} {s : Shared}
theorem sliceApplied_rev {sl : Addr} {v1 v2 v3 : Value} {n : Nat} {Q : Int × Int × Nat → Shared → Prop} (hs : s.heap.IsSliceOf sl v1 v2 v3) (p1 : IsPart v1 none) (p2 : IsPart v2 none) (p3 : IsPart v3 (some (-1)))
    (hq : Q ((n : Int) - 1, -1, n) s) : wpAny (model prog w) A (Builtin.Slice.sliceApplied (.ref sl) (pure (n : Int))) Q E s := by
  obtain ⟨ob, hob, _, hdt⟩ := id hs
  unfold Builtin.Slice.sliceApplied Builtin.Slice.sliceFields
  refine wpAny_bind (wpAny_bind (wpAny_field hob hdt (x := v1) rfl (wpAny_bind (wpAny_field hob hdt (x := v2) rfl (wpAny_bind (wpAny_field hob hdt (x := v3) rfl (wpAny_pure ?_)))))))
  refine wpAny_bind (HT.slicePart_ p3 ?_)
  show wpAny _ _ (if ((-1 : Int) == 0) = true then _ else _) _ _ s
  rw [if_neg (by decide)]
  refine wpAny_bind (HT.slicePart_ p1 (wpAny_bind (HT.slicePart_ p2 (wpAny_bind (wpAny_pure ?_)))))
  show wpAny _ _ (match Builtin.Slice.sliceAdjust none none (-1) (n : Int) with | (lo, hi) => pure (lo, (-1 : Int), Builtin.Slice.slicePlaces lo hi (-1))) _ _ s
  rw [(rev_places n).1]
  show wpAny _ _ (pure ((n : Int) - 1, (-1 : Int), Builtin.Slice.slicePlaces ((n : Int) - 1) (-1) (-1))) _ _ s
  rw [(rev_places n).2]
  exact wpAny_pure hq
theorem getItem_tuple_rev {t sl : Addr} {xs : Array Value} {v1 v2 v3 : Value} {Q : Value → Shared → Prop} (ht : IsTup s.heap t xs) (hs : s.heap.IsSliceOf sl v1 v2 v3) (p1 : IsPart v1 none) (p2 : IsPart v2 none) (p3 : IsPart v3 (some (-1)))
    (hq : Q (.ref s.heap.objs.size) { s with heap := s.heap.push { cls := .type "tuple", data := .seq xs.toList.reverse.toArray } }) (hz : xs.size ≤ sizeLine) : wpAny (model prog w) A (getItem (.ref t) (.ref sl)) Q E s := by
  have fits : sizeOk (.seq xs.toList.reverse.toArray) := by
    show xs.toList.reverse.toArray.size ≤ sizeLine
    rw [List.size_toArray, List.length_reverse, Array.length_toList]
    exact hz
  obtain ⟨ob, hob, hcl, _⟩ := id hs
  have hT : s.TypeIs (.ref sl) "slice" := ⟨ob, hob, hcl⟩
  unfold getItem
  try with_reducible refine wpAny_holding ?_
  first | refine wpAny_bind (wpAny_pure ?_) | skip
  refine wpAny_bind (wpAny_sequenceKey (ht.typeIs) (by decide) (wpAny_bind (wpAny_callSpecial?_slot (name := Str.ofString "__getitem__") ht.typeIs PyProof.Rows.slot_tuple_getitem (wpAny_call_entry PyProof.Rows.slot_tuple_getitem ht.typeIs PyProof.Rows.entry_tuple_getitem ?_ (PyProof.Rows.args_tuple_getitem _ _)))))
  show wpAny _ _ (Builtin.Tuple.tupleItemsOf (.ref t) >>= _) _ _ s
  refine wpAny_bind (PyProof.Rows.tupleItemsOf_ ht (wpAny_bind (wpAny_typeOf hT ?_)))
  rw [if_pos (by decide)]
  refine wpAny_bind (sliceApplied_rev (n := xs.size) hs p1 p2 p3 ?_)
  have no : ¬ ((((xs.size : Int) - 1) == 0 && (-1 : Int) == 1 && xs.size == xs.size) = true) := by
    rw [show ((-1 : Int) == 1) = false by decide, Bool.and_false, Bool.false_and]
    exact Bool.false_ne_true
  show wpAny _ _ (if (((xs.size : Int) - 1) == 0 && (-1 : Int) == 1 && xs.size == xs.size) = true then _ else _) _ _ s
  rw [if_neg no, rev_pick]
  first
    | exact wpAny_bind (m := Builtin.Tuple.tupleExact _) (wpAny_newObj_type (wpAny_pure ⟨_, rfl, wpAny_pure hq⟩) fits)
    | exact wpAny_bind (m := Builtin.Tuple.tupleExact _) (wpAny_newObj_type (wpAny_bind (wpAny_pure (wpAny_pure ⟨_, rfl, wpAny_pure hq⟩))) fits)
    | exact wpAny_bind (wpAny_bind (m := Builtin.Tuple.tupleExact _) (wpAny_newObj_type (wpAny_pure (wpAny_pure ⟨_, rfl, wpAny_pure hq⟩)) fits))
    | exact wpAny_bind (wpAny_bind (m := Builtin.Tuple.tupleExact _) (wpAny_newObj_type (wpAny_pure ⟨_, rfl, wpAny_pure hq⟩) fits))
end
section
variable {X : Cx}
def tRevT (K : PySem.W.Frag) (te : TE) : TE := fun σ H Q => te σ H fun x H1 => ∃ a xs, x = .ref a ∧ SqT K H1 a xs ∧ ∀ p, H1 p = none → Q (.ref p) (upd H1 p (.tup xs.reverse))
theorem pe_revT {e : Expr} {te : TE} {k : Nat} {p1 p2 p3 pos : Pos} (he : PE X e te) : PE X (.Subscript e (.Slice none none (some (.UnaryOp .USub (.Constant (.int 1) k p1) p2)) p3) pos) (tRevT X.K te) := by
  refine ⟨fun pins s σ H Q I hh => ?_⟩
  refine Subscript_ (thn (he.run pins s σ H _ I hh) fun v s1 ⟨x, H1, I1, r1, a, xs, ex, hx, q⟩ => ?_)
  subst ex
  cases r1
  have step : PO X (some (.UnaryOp .USub (.Constant (.int 1) k p1) p2)) (tPart (tUn (rU fun i => .int (-i)) (tC (.int 1)))) := po_some (pe_un un_neg pe_int)
  refine wpAny_Slice (thn (po_none.run pins s1 σ H1 (fun o H2 => o = none ∧ H2 = H1) I1 ⟨rfl, rfl⟩) fun w1 s2 ⟨o1, H2, I2, q1, e1, f1⟩ => ?_)
  subst e1 f1
  refine thn (po_none.run pins s2 σ H2 (fun o H3 => o = none ∧ H3 = H2) I2 ⟨rfl, rfl⟩) fun w2 s3 ⟨o2, H3, I3, q2, e2, f2⟩ => ?_
  subst e2 f2
  refine thn (step.run pins s3 σ H3 (fun o H4 => o = some (-1) ∧ H4 = H3) I3 ⟨1, rfl, -1, rfl, rfl, rfl⟩) fun w3 s4 ⟨o3, H4, I4, q3, e3, f3⟩ => ?_
  subst e3 f3
  have I5 : Inv X pins σ H4 { s4 with heap := s4.heap.push { cls := .type "slice", data := .fields #[w1, w2, w3] } } := I4.kept (t' := s4.toks) fun b ob z => Heap.get?_push_of_some _ z
  obtain ⟨its, r, ht, hz⟩ := I5.tuple hx
  have hlen := r.length
  show wpAny (model X.prog X.w) X.A (subscriptTail e (.Slice none none (some (.UnaryOp .USub (.Constant (.int 1) k p1) p2)) p3) (.ref a) (.ref s4.heap.objs.size)) (EP X pins σ Q) X.xe { s4 with heap := s4.heap.push { cls := .type "slice", data := .fields #[w1, w2, w3] } }
  refine tail_any (ops := [.ref a, .ref s4.heap.objs.size]) ht.typeIs (PyProof.Rows.slot_tuple_getitem.lookup) ?_ (by with_unfolding_all rfl)
  refine getItem_tuple_rev ht (Heap.IsSliceOf.new _ w1 w2 w3) q1 q2 q3 ?_ (by rw [List.size_toArray]; omega)
  refine ⟨.ref _, _, I5.laid (t' := s4.toks) (o := .tup xs.reverse) (fun b ob z => Heap.get?_push_of_some _ z) (Nat.le_refl _) ?_, rfl, q _ (I5.hok.fresh (Nat.le_refl _))⟩
  exact ⟨by rw [List.length_reverse]; exact hz, _, r.reverse, ⟨_, Heap.get?_push_size _ rfl, rfl, _, rfl⟩⟩
end
end L2.Own

namespace Sl
open PySem PySem.Spec PyProof.Rows L2
theorem inV_strs (y : Str) (zs : List Str) : inV (.str y) (zs.map V.str) = zs.contains y := by
  unfold inV
  rw [List.any_map, List.contains_eq_any_beq]
  congr 1
  funext x
  show (x == y) = (y == x)
  rw [Bool.eq_iff_iff, beq_iff_eq, beq_iff_eq]
  exact eq_comm
theorem flat_strs (zs : List Str) : (zs.map V.str).all flatV = true := by
  rw [List.all_map, List.all_eq_true]
  exact fun _ _ => rfl
/-! ## rows: threads told over and over -/
def rot {α : Type} (ws : List α) (k : Nat) : List α := ws.drop k ++ ws.take k
theorem rot_length {α : Type} (ws : List α) (k : Nat) : (rot ws k).length = ws.length := by
  unfold rot
  rw [List.length_append, List.length_drop, List.length_take]
  omega
theorem rot_get {α : Type} {ws : List α} {k i : Nat} (hk : k ≤ ws.length) (hi : i < ws.length) : (rot ws k)[i]? = ws[(i + k) % ws.length]? := by
  unfold rot
  by_cases h : i + k < ws.length
  · rw [List.getElem?_append_left (by rw [List.length_drop]; omega), List.getElem?_drop, Nat.mod_eq_of_lt h, Nat.add_comm k i]
  · rw [List.getElem?_append_right (by rw [List.length_drop]; omega), List.length_drop, List.getElem?_take_of_lt (by omega)]
    have e : (i + k) % ws.length = i - (ws.length - k) := by
      rw [Nat.mod_eq_sub_mod (by omega), Nat.mod_eq_of_lt (by omega)]
      omega
    rw [e]
/-- the thread at a spot -/
def at_ (ws : List Str) (s : Int) : Str := ws.getD (s % (ws.length : Nat)).toNat Str.empty
theorem at_nat {ws : List Str} {i : Nat} (hi : i < ws.length) : ws[i]? = some (at_ ws (i : Nat)) := by
  unfold at_
  rw [Int.emod_eq_of_lt (by omega) (by omega), Int.toNat_natCast, List.getElem?_eq_getElem hi]
  simp [List.getD, List.getElem?_eq_getElem hi]
theorem emod_in {n : Nat} (s : Int) (h : 0 < n) : 0 ≤ s % (n : Nat) ∧ s % (n : Nat) < (n : Nat) := ⟨Int.emod_nonneg _ (by omega), Int.emod_lt_of_pos _ (by omega)⟩
theorem at_get {ws : List Str} (h : 0 < ws.length) (s : Int) : ws[(s % (ws.length : Nat)).toNat]? = some (at_ ws s) := by
  obtain ⟨h0, h1⟩ := emod_in s h
  unfold at_
  have hi : (s % (ws.length : Nat)).toNat < ws.length := by omega
  rw [List.getElem?_eq_getElem hi]
  simp [List.getD, List.getElem?_eq_getElem hi]
theorem at_mod {ws : List Str} (s : Int) : at_ ws (s % (ws.length : Nat)) = at_ ws s := by
  unfold at_
  rw [Int.emod_emod]
theorem at_ext {ws vs : List Str} (hl : ws.length = vs.length) (h : ∀ i : Nat, i < ws.length → at_ ws (i : Nat) = at_ vs (i : Nat)) : ws = vs := by
  refine List.ext_getElem? fun i => ?_
  by_cases hi : i < ws.length
  · rw [at_nat hi, at_nat (by omega), h i hi]
  · rw [List.getElem?_eq_none (by omega), List.getElem?_eq_none (by omega)]
theorem at_mem {ws : List Str} (h : 0 < ws.length) (s : Int) : at_ ws s ∈ ws := List.mem_of_getElem? (at_get h s)
/-- f tells the same so many spots on -/
def Per (f : Int → Str) (n : Nat) : Prop := ∀ s, f (s + (n : Nat)) = f s
theorem at_per (ws : List Str) : Per (at_ ws) ws.length := fun s => by
  unfold at_
  rw [Int.add_emod_right]
theorem Per.mul {f : Int → Str} {n : Nat} (h : Per f n) (k : Int) (s : Int) : f (s + k * (n : Nat)) = f s := by
  have pos : ∀ (m : Nat) (s : Int), f (s + (m : Nat) * (n : Nat)) = f s := fun m => by
    induction m with
    | zero => intro s; simp
    | succ m ih =>
      intro s
      rw [show s + ((m + 1 : Nat) : Int) * (n : Nat) = s + (m : Nat) * (n : Nat) + (n : Nat) by rw [Int.natCast_add, Int.add_mul]; simp; omega, h, ih]
  rcases Int.le_total 0 k with hk | hk
  · obtain ⟨m, rfl⟩ := Int.eq_ofNat_of_zero_le hk
    exact pos m s
  · obtain ⟨m, e⟩ := Int.eq_ofNat_of_zero_le (show 0 ≤ -k by omega)
    have e2 : k = -(m : Int) := by omega
    have := pos m (s + k * (n : Nat))
    rw [e2] at this ⊢
    rw [← this]
    congr 1
    rw [Int.add_assoc, ← Int.add_mul, Int.add_left_neg, Int.zero_mul, Int.add_zero]
theorem Per.mod {f : Int → Str} {n : Nat} (h : Per f n) (s : Int) : f (s % (n : Nat)) = f s := by
  have e : s = s % (n : Nat) + (s / (n : Nat)) * (n : Nat) := by
    have := Int.emod_add_mul_ediv s (n : Nat)
    rw [Int.mul_comm] at this
    omega
  conv => rhs; rw [e]
  exact (h.mul _ _).symm
/-- the threads begun elsewhere -/
theorem at_rot {ws : List Str} {k : Nat} (hk : k ≤ ws.length) (s : Int) : at_ (rot ws k) s = at_ ws (s + (k : Nat)) := by
  by_cases h : 0 < ws.length
  · obtain ⟨h0, h1⟩ := emod_in s h
    have g1 := at_get (ws := rot ws k) (by rw [rot_length]; exact h) s
    rw [rot_length, rot_get hk (by omega)] at g1
    have g2 := at_get h (s + (k : Nat))
    have e : ((s % (ws.length : Nat)).toNat + k) % ws.length = ((s + (k : Nat)) % (ws.length : Nat)).toNat := by
      have e1 : (s + (k : Nat)) % (ws.length : Nat) = ((s % (ws.length : Nat)) + (k : Nat)) % (ws.length : Nat) := by rw [Int.emod_add_emod]
      rw [e1]
      obtain ⟨m, hm⟩ := Int.eq_ofNat_of_zero_le h0
      rw [hm]
      show (m + k) % ws.length = (((m : Int) + (k : Nat)) % (ws.length : Nat)).toNat
      rw [← Int.natCast_add, ← Int.natCast_emod, Int.toNat_natCast]
    rw [e, g2] at g1
    exact (Option.some.inj g1).symm
  · have e : ws = [] := List.eq_nil_of_length_eq_zero (by omega)
    subst e
    have hk0 : k = 0 := by simpa using hk
    subst hk0
    unfold at_ rot
    simp [List.getD]
theorem rot_iff {ws : List Str} {k : Nat} (hk : k ≤ ws.length) : rot ws k = ws ↔ Per (at_ ws) k := by
  constructor
  · intro h s
    rw [← at_rot hk, h]
  · intro h
    exact at_ext (rot_length _ _) fun i _ => by rw [at_rot hk, h]
/-- a row's threads: at least one, no lesser round -/
structure RowOk (r : List Str) : Prop where
  ne : 0 < r.length
  least : ∀ k, 0 < k → k < r.length → rot r k ≠ r
  sh : ∀ z ∈ r, isSh z = true
  most : r.length ≤ 240
/-- the least round -/
structure Least (ws : List Str) (k : Nat) : Prop where
  pos : 0 < k
  le : k ≤ ws.length
  eq : rot ws k = ws
  no : ∀ j, 0 < j → j < k → rot ws j ≠ ws
theorem Least.at {ws : List Str} {k : Nat} (h : Least ws k) (s : Int) : at_ (ws.take k) s = at_ ws s := by
  have hp := (rot_iff h.le).mp h.eq
  have hl : (ws.take k).length = k := by rw [List.length_take]; have := h.le; omega
  obtain ⟨h0, h1⟩ := emod_in s h.pos
  have g := at_get (ws := ws.take k) (by rw [hl]; exact h.pos) s
  have hlt : (s % (k : Nat)).toNat < k := by omega
  have hle := h.le
  rw [hl, List.getElem?_take_of_lt hlt, at_nat (by omega)] at g
  have e := Option.some.inj g
  rw [← e, Int.toNat_of_nonneg h0]
  exact hp.mod s
theorem Least.rowOk {ws : List Str} {k : Nat} (h : Least ws k) (hs : ∀ z ∈ ws, isSh z = true) (hm : k ≤ 240) : RowOk (ws.take k) := by
  have hl : (ws.take k).length = k := by rw [List.length_take]; have := h.le; omega
  refine ⟨by rw [hl]; exact h.pos, fun j j0 j1 e => ?_, fun z hz => hs z (List.mem_of_mem_take hz), by rw [hl]; exact hm⟩
  rw [hl] at j1
  have hj : j ≤ (ws.take k).length := by omega
  have hp : Per (at_ ws) j := fun s => by
    rw [← h.at, ← h.at]
    exact (rot_iff hj).mp e s
  exact h.no j j0 j1 ((rot_iff (by have := h.le; omega)).mpr hp)
theorem RowOk.rot {r : List Str} (h : RowOk r) {j : Nat} (hj : j ≤ r.length) : RowOk (rot r j) := by
  refine ⟨by rw [rot_length]; exact h.ne, fun k k0 k1 e => ?_, fun z hz => h.sh z ?_, by rw [rot_length]; exact h.most⟩
  · rw [rot_length] at k1
    have hp := (rot_iff (ws := Sl.rot r j) (by rw [rot_length]; omega)).mp e
    refine h.least k k0 k1 ((rot_iff (by omega)).mpr fun s => ?_)
    have := hp (s - (j : Nat))
    rw [at_rot hj, at_rot hj] at this
    rw [show s - (j : Nat) + (k : Nat) + (j : Nat) = s + (k : Nat) by omega, show s - (j : Nat) + (j : Nat) = s by omega] at this
    exact this
  · unfold Sl.rot at hz
    rcases List.mem_append.mp hz with q | q
    · exact List.mem_of_mem_drop q
    · exact List.mem_of_mem_take q
/-- a row is its threads -/
theorem RowOk.unique {r q : List Str} (hr : RowOk r) (hq : RowOk q) (h : ∀ s, at_ r s = at_ q s) : r = q := by
  have key : ∀ {r q : List Str}, RowOk r → RowOk q → (∀ s, at_ r s = at_ q s) → r.length ≤ q.length := fun {r q} hr hq h => by
    rcases Nat.lt_or_ge q.length r.length with hlt | hge
    · exfalso
      refine hr.least q.length hq.ne hlt ((rot_iff (by omega)).mpr fun s => ?_)
      rw [h, h]
      exact at_per q s
    · exact hge
  have hl : r.length = q.length := Nat.le_antisymm (key hr hq h) (key hq hr fun s => (h s).symm)
  exact at_ext hl fun i _ => h _
/-- a least round there is -/
theorem least_ex {ws : List Str} (h : 0 < ws.length) : ∃ k, Least ws k := by
  have whole : rot ws ws.length = ws := by
    unfold rot
    rw [List.drop_length, List.take_length, List.nil_append]
  have go : ∀ n, n ≤ ws.length → (∃ k, Least ws k) ∨ ∀ j, 0 < j → j ≤ n → rot ws j ≠ ws := fun n => by
    induction n with
    | zero => exact fun _ => .inr fun j j0 j1 => by omega
    | succ n ih =>
      intro hn
      rcases ih (by omega) with q | q
      · exact .inl q
      · by_cases e : rot ws (n + 1) = ws
        · exact .inl ⟨n + 1, by omega, hn, e, fun j j0 j1 => q j j0 (by omega)⟩
        · refine .inr fun j j0 j1 => ?_
          by_cases ej : j = n + 1
          · rw [ej]; exact e
          · exact q j j0 (by omega)
  rcases go ws.length (Nat.le_refl _) with q | q
  · exact q
  · exact absurd whole (q ws.length h (Nat.le_refl _))
theorem Least.unique {ws : List Str} {j k : Nat} (hj : Least ws j) (hk : Least ws k) : j = k := by
  rcases Nat.lt_trichotomy j k with h | h | h
  · exact absurd hj.eq (hk.no j hj.pos h)
  · exact h
  · exact absurd hk.eq (hj.no k hk.pos h)
theorem Least.dvd {ws : List Str} {k : Nat} (h : Least ws k) : ws.length % k = 0 := by
  have hn := h.le
  have h0 := h.pos
  rcases Nat.eq_zero_or_pos (ws.length % k) with e | e
  · exact e
  exfalso
  have hlt : ws.length % k < k := Nat.mod_lt _ h0
  have hk : Per (at_ ws) k := (rot_iff hn).mp h.eq
  refine h.no _ e hlt ((rot_iff (by omega)).mpr fun s => ?_)
  have e1 := hk.mul (-((ws.length / k : Nat) : Int)) (s + (ws.length : Nat))
  have e2 : s + (ws.length : Nat) + -((ws.length / k : Nat) : Int) * (k : Nat) = s + ((ws.length % k : Nat) : Int) := by
    have := Nat.div_add_mod ws.length k
    have h3 : ((ws.length / k : Nat) : Int) * (k : Nat) = ((k * (ws.length / k) : Nat) : Int) := by
      rw [Nat.mul_comm]
      exact (Int.natCast_mul _ _).symm
    rw [Int.neg_mul, h3]
    omega
  rw [e2, at_per ws s] at e1
  exact e1
theorem nd_ne {a b : V} (h : (!decide (a = b)) = true) : a ≠ b := by simpa using h
theorem nd_eq {a b : V} (h : ¬ (!decide (a = b)) = true) : a = b := by simpa using h
theorem ne_nd {a b : V} (h : a ≠ b) : (!decide (a = b)) = true := by simpa using h
theorem eq_nd {a b : V} (h : a = b) : ¬ (!decide (a = b)) = true := by simpa using h
end Sl

namespace Sl
open PySem PySem.Spec PyProof.Rows L2
/-! ## drawn shades -/
def abc : List Nat := (List.range 26).map (97 + ·)
theorem abc_eq : (Str.ofString "abcdefghijklmnopqrstuvwxyz").cps.toList = abc := by decide +kernel
theorem abc_size : (Str.ofString "abcdefghijklmnopqrstuvwxyz").cps.size = 26 := by decide +kernel
theorem abc_get {i : Nat} {c : Nat} (h : abc[i]? = some c) : 97 ≤ c ∧ c ≤ 122 := by
  have hm := List.mem_of_getElem? h
  obtain ⟨k, hk, e⟩ := List.mem_map.mp hm
  have := List.mem_range.mp hk
  omega
theorem abc_at {d : Int} (h0 : 0 ≤ d) (h1 : d < 26) : ∃ c, atI (Str.ofString "abcdefghijklmnopqrstuvwxyz").cps.toList d = some c ∧ 97 ≤ c ∧ c ≤ 122 := by
  rw [abc_eq]
  have hl : abc.length = 26 := by decide
  have hd : d.toNat < abc.length := by omega
  have e : abc[d.toNat]? = some abc[d.toNat] := List.getElem?_eq_getElem hd
  refine ⟨_, ?_, abc_get e⟩
  have := atI_nat e
  rw [Int.toNat_of_nonneg h0] at this
  exact this
/-- signs that are all small letters -/
def Low (z : Str) : Prop := ∀ c ∈ z.cps.toList, 97 ≤ c ∧ c ≤ 122
theorem isSh_of {z : Str} (h : Low z) (h1 : 1 ≤ z.cps.size) (h3 : z.cps.size ≤ 3) : isSh z = true := by
  unfold isSh
  rw [decide_eq_true (⟨h1, h3⟩ : _ ∧ _), Bool.true_and, List.all_eq_true]
  exact fun c hc => decide_eq_true (h c hc)
theorem low_of {z : Str} (h : isSh z = true) : Low z := fun c hc => by
  unfold isSh at h
  rw [Bool.and_eq_true] at h
  exact of_decide_eq_true (List.all_eq_true.mp h.2 c hc)
theorem low_append {y z : Str} (h1 : Low y) (h2 : Low z) : Low (y ++ z) := fun c hc => by
  have e : (y ++ z).cps.toList = y.cps.toList ++ z.cps.toList := by
    show (y.cps ++ z.cps).toList = _
    simp
  rw [e] at hc
  rcases List.mem_append.mp hc with q | q
  · exact h1 c q
  · exact h2 c q
theorem low_one {c : Nat} (h : 97 ≤ c ∧ c ≤ 122) : Low ⟨#[c]⟩ := fun d hd => by
  have : d = c := by simpa using hd
  rw [this]
  exact h
theorem size_append (y z : Str) : (y ++ z).cps.size = y.cps.size + z.cps.size := by
  show (y.cps ++ z.cps).size = _
  simp
theorem cut_low {z : Str} (h : Low z) (lo hi : Option Int) : Low (cutS z lo hi) := fun c hc => by
  unfold cutS at hc
  rw [List.toList_toArray] at hc
  exact h c (List.mem_of_mem_drop (List.mem_of_mem_take hc))
theorem cut_size (z : Str) (k : Nat) : (cutS z none (some (k : Int))).cps.size = min k z.cps.size := by
  unfold cutS
  rw [List.size_toArray, HT.sIx_none, HT.sIx_nat, List.length_take, List.drop_zero]
  show min (min k z.cps.size - 0) z.cps.toList.length = _
  rw [Array.length_toList]
  omega
theorem pigeon {α : Type} [DecidableEq α] : ∀ {l zs : List α}, l.Nodup → (∀ x ∈ l, x ∈ zs) → l.length ≤ zs.length
  | [], _, _, _ => Nat.zero_le _
  | a :: l, zs, hn, hs => by
    have hn' := List.nodup_cons.mp hn
    have ha : a ∈ zs := hs a List.mem_cons_self
    have ih := pigeon (l := l) (zs := zs.erase a) hn'.2 fun x hx => by
      have hne : x ≠ a := fun e => hn'.1 (e ▸ hx)
      exact (List.mem_erase_of_ne hne).mpr (hs x (List.mem_cons_of_mem _ hx))
    rw [List.length_erase_of_mem ha] at ih
    have : 0 < zs.length := List.length_pos_of_mem ha
    simp only [List.length_cons]
    omega
/-! ## data of texts -/
theorem dp_strs (K : PySem.W.Frag) (H : Hp) : ∀ zs : List Str, DpAll K H (zs.map V.str) (zs.map PyData.str)
  | [] => .nil
  | z :: zs => .cons (.str z) (dp_strs K H zs)
theorem strOk_of {z : Str} (h : isSh z = true) : PyData.strOk z = true := by
  have hl := low_of h
  unfold PyData.strOk
  rw [← Array.all_toList, List.all_eq_true]
  intro c hc
  have := hl c hc
  exact decide_eq_true (by omega)
theorem lay_strs : ∀ {zs : List Str}, (∀ z ∈ zs, isSh z = true) → PyData.canLayAll0 (zs.map PyData.str) = true
  | [], _ => rfl
  | z :: zs, h => by
    have ih := lay_strs fun y hy => h y (List.mem_cons_of_mem _ hy)
    have h1 := strOk_of (h z List.mem_cons_self)
    simp [PyData.canLayAll0, PyData.canLay0, ih, h1]
theorem deep_strs : ∀ zs : List Str, PyData.depthAll (zs.map PyData.str) ≤ 1
  | [] => by simp [PyData.depthAll]
  | z :: zs => by
    have ih := deep_strs zs
    simp only [List.map_cons, PyData.depthAll, PyData.depth]
    omega
theorem shaped_strs {zs : List Str} (h : ∀ z ∈ zs, isSh z = true) : SeqAt.shaped (.list (zs.map PyData.str)) = true := by
  unfold SeqAt.shaped
  rw [Bool.and_eq_true]
  refine ⟨lay_strs h, decide_eq_true ?_⟩
  have := deep_strs zs
  simp only [PyData.depth]
  omega
theorem shaped_strsT {zs : List Str} (h : ∀ z ∈ zs, isSh z = true) : SeqAt.shaped (.tuple (zs.map PyData.str)) = true := by
  unfold SeqAt.shaped
  rw [Bool.and_eq_true]
  refine ⟨lay_strs h, decide_eq_true ?_⟩
  have := deep_strs zs
  simp only [PyData.depth]
  omega
theorem eqv_strs {zs : List Str} (h : ∀ z ∈ zs, isSh z = true) : PyData.eqv (.list (zs.map PyData.str)) (.list (zs.map PyData.str)) = true := SeqAt.eqv_refl _ (lay_strs h)
theorem eqv_strsT {zs : List Str} (h : ∀ z ∈ zs, isSh z = true) : PyData.eqv (.tuple (zs.map PyData.str)) (.tuple (zs.map PyData.str)) = true := SeqAt.eqv_refl _ (lay_strs h)

theorem eqvAll_strs : ∀ as bs : List Str, PyData.eqvAll (as.map PyData.str) (bs.map PyData.str) = decide (as = bs)
  | [], [] => rfl
  | [], _ :: _ => rfl
  | _ :: _, [] => rfl
  | a :: as, b :: bs => by
    rw [List.map_cons, List.map_cons, PyData.eqvAll, eqvAll_strs as bs]
    have e : PyData.eqv (.str a) (.str b) = decide (a = b) := by
      simp only [PyData.eqv]
      rw [Bool.eq_iff_iff, beq_iff_eq, decide_eq_true_iff]
    rw [e, Bool.eq_iff_iff, Bool.and_eq_true, decide_eq_true_iff, decide_eq_true_iff, decide_eq_true_iff, List.cons.injEq]
theorem eqv_tups (as bs : List Str) : PyData.eqv (.tuple (as.map PyData.str)) (.tuple (bs.map PyData.str)) = decide (as = bs) := by
  rw [PyData.eqv]
  exact eqvAll_strs as bs
theorem eqv_lsts (as bs : List Str) : PyData.eqv (.list (as.map PyData.str)) (.list (bs.map PyData.str)) = decide (as = bs) := by
  rw [PyData.eqv]
  exact eqvAll_strs as bs
end Sl

namespace L2.Own
open PySem PySem.Spec PyProof.Rows Sl
section
variable {X : Cx} {CX : CXT} {C g : Addr} {n : Nat} {sp : Sp} {E : XK}
/-- x op y, x an instance whose class's def for op is at g, y of a class that is not below -/
def rOwnI (K : PySem.W.Frag) (C : Addr) (sp : Sp) (E : XK) : R2 := fun x y H Q => ∃ a dx fs t, x = .ref a ∧ H a = some (.ins C dx fs) ∧ TyX K H y t ∧ PySem.W.notFirst K C t = true ∧ sp [x, y] H Q E
theorem op_ownI {op : CmpOp} (hop : ∀ a b, compareOp op a b = richCompare op a b) (hs : PySem.W.findIn X.K (.ref C) (cmpInfo op).2.1 = some (some (.ref g))) (hf : PySem.W.isFn X.K (.ref g) = true) (F : FnR X.prog X.w X.K X.mg X.base CX n g sp)
    (hr : Room n X.A) (hx : Passes CX X E) : OpR X (compareOp op) (rOwnI X.K C sp E) := by
  intro pins s σ H x y v u Q I rx ry hh
  obtain ⟨a, dx, fs, t, rfl, ha, ty, hn, q⟩ := hh
  cases (show v = Value.ref a from rx)
  obtain ⟨mA, O, _⟩ := ins_get I.hok ha
  obtain ⟨od, J, _⟩ := O.look
  obtain ⟨Z, kz, pz, _⟩ := kit_of I ry ty
  obtain ⟨m, hF⟩ := I.fr
  rw [hop]
  refine PySem.W.cmp_K (op := op) (tb := t) hr.units0 hF I.ok.mod.kin J (kz.ty _ _ I.kIn pz) hn hs hf ?_
  refine wpAny_mono (wpAny_call (run_fnR (us := [.ref a, u]) (vs := [.ref a, y]) F hr hx I (.cons rfl (.cons ry .nil)) q)) (fun w' s' z => ?_) fun _ _ z => z
  obtain ⟨z', H', I', rz, qz⟩ := z
  exact SlX.cmpback rz ⟨z', H', I', rz, qz⟩
/-- len(x) by an own __len__ -/
def rLenI (C : Addr) (sp : Sp) (E : XK) : List V → Hp → VK → Prop := fun xs H Q => ∃ a dx fs, xs = [V.ref a] ∧ H a = some (.ins C dx fs) ∧ sp [.ref a] H (fun z H' => ∃ i : Int, z = .int i ∧ 0 ≤ i ∧ i < 2 ^ 63 ∧ Q (.int i) H') E
theorem call_lenI (hs : PySem.W.findIn X.K (.ref C) "__len__" = some (some (.ref g))) (hf : PySem.W.isFn X.K (.ref g) = true) (F : FnR X.prog X.w X.K X.mg X.base CX n g sp) (hr : Room (n + 1) X.A) (hx : Passes CX X E) : CallR X (.builtin "len") (rLenI C sp E) := by
  intro pins s σ H xs us Q I r hh
  obtain ⟨a, dx, fs, rfl, ha, q⟩ := hh
  obtain ⟨u, rfl, ru⟩ := r.one
  cases (show u = Value.ref a from ru)
  obtain ⟨mA, O, _⟩ := ins_get I.hok ha
  obtain ⟨od, J, _⟩ := O.look
  obtain ⟨m, hF⟩ := I.fr
  refine PySem.W.len_K hF I.ok.mod.kin J hs hf ?_
  refine wpAny_mono (wpAny_call (SlX.run_at (us := [.ref a]) (ws := [.ref a]) F (Room.in1 hr) I.env0.in1 hx I (.cons rfl .nil) q)) (fun w' s' z => ?_) fun _ _ z => z
  obtain ⟨z', H', I', rz, i, ei, h0, h1, qz⟩ := z
  subst ei
  obtain ⟨tk, ev⟩ := (show ∃ t, w' = Value.int i t from rz)
  cases ev
  exact ⟨⟨h0, h1⟩, .int i, H', I'.tok _, ⟨_, rfl⟩, qz⟩
/-- str(x) by an own __str__ -/
def rStrI (C : Addr) (sp : Sp) (E : XK) : List V → Hp → VK → Prop := fun xs H Q => ∃ a dx fs, xs = [V.ref a] ∧ H a = some (.ins C dx fs) ∧ sp [.ref a] H (fun z H' => ∃ i, z = .str i ∧ Q (.str i) H') E
theorem call_strI (hs : PySem.W.findIn X.K (.ref C) "__str__" = some (some (.ref g))) (hf : PySem.W.isFn X.K (.ref g) = true) (F : FnR X.prog X.w X.K X.mg X.base CX n g sp) (hr : Room (n + 2) X.A) (hx : Passes CX X E) : CallR X (.type "str") (rStrI C sp E) := by
  intro pins s σ H xs us Q I r hh
  obtain ⟨a, dx, fs, rfl, ha, q⟩ := hh
  obtain ⟨u, rfl, ru⟩ := r.one
  cases (show u = Value.ref a from ru)
  obtain ⟨mA, O, _⟩ := ins_get I.hok ha
  obtain ⟨od, J, _⟩ := O.look
  have hr2 : Room n X.A.in1.in1 := (show Room (n + 1) X.A.in1 from Room.in1 hr).in1
  refine PySem.W.kso_call hr2.units0 I.kIn J hs hf ?_
  refine wpAny_mono (wpAny_call (SlX.run_at (us := [.ref a]) (ws := [.ref a]) F hr2 I.env0.in1.in1 hx I (.cons rfl .nil) q)) (fun w' s' z => ?_) fun _ _ z => z
  obtain ⟨z', H', I', rz, i, ei, qz⟩ := z
  subst ei
  obtain ⟨tk, ev⟩ := (show ∃ t, w' = Value.str i t from rz)
  cases ev
  exact ⟨.str i, H', I', ⟨_, rfl⟩, qz⟩
end
end L2.Own

namespace L2.Own
open PySem PySem.Spec PyProof.Rows Sl
/-! ## x != y by an own == -/
section
variable {prog : Program} {w : World} {A : Around} {E : Value → Shared → Prop} {s : Shared} {K : PySem.W.Frag} {x C f L : Addr} {h0 : Heap} {m : Str → Option Value} {ox : Obj} {od : Option Obj} {b tb : Value}
/-- object.__ne__(x, b): not what the own == gives -/
theorem one_call {Q : Value → Shared → Prop} (hu : A.in1.units < cLine) (X : K.In s.heap) (I : PySem.W.InstAt s.heap x ox C od) (hm : PySem.W.mroIn K C (.type "object") = some true)
    (hs : PySem.W.findIn K (.ref C) "__eq__" = some (some (.ref f))) (hf : PySem.W.isFn K (.ref f) = true)
    (h : wpAny (model prog w) A.in1 (call (.ref f) [.ref x, b]) (fun v s' => ∃ c : Bool, v = .bool c ∧ Q (.bool !c) s') E s) : wpAny (model prog w) A (call (.builtin "object.__ne__") [.ref x, b]) Q E s := by
  have sub : PySem.W.Looks (model prog w) s.heap (isInstance (.ref x) (.type "object")) true := I.type.andThen (PySem.W.looks_mroIn X hm)
  refine wpAny_call (codeAny_call_builtin PySem.F.slot_object_ne.plain PySem.F.entry_object_ne (PySem.W.check_slot (owner := "object") (n := "__ne__") (by decide +kernel) (by decide +kernel) sub (PySem.F.args_object_ne_2 _ _) ?_))
  unfold Builtin.«object.__ne__»
  refine wpAny_bind (wpAny_of_eq (a := ((Value.ref x : Value), [b])) (by first | rfl | (simp only [slotArgs]; rfl)) ?_)
  refine wpAny_bind (wpAny_cRoomFor hu ?_)
  refine wpAny_bind (PySem.W.ifBound_K X I hs hf (wpAny_mono h (fun v s' hv => ?_) fun _ _ e => e))
  obtain ⟨c, rfl, q⟩ := hv
  show wpAny _ _ (truthy (.bool c) >>= fun t => ret (.bool !t)) _ _ _
  refine wpAny_bind (wpAny_of_eq (a := c) (by first | rfl | kernel_rfl) ?_)
  exact wpAny_pure q
/-- the builtin that object has for !=, bound to an instance -/
theorem ifBound_ne {Q : Option Value → Shared → Prop} (X : K.In s.heap) (I : PySem.W.InstAt s.heap x ox C od) (hs : PySem.W.findIn K (.ref C) "__ne__" = some (some (.builtin "object.__ne__")))
    (h : wpAny (model prog w) A (call (.builtin "object.__ne__") [.ref x, b]) (fun v => Q (some v)) E s) : wpAny (model prog w) A (callSpecialIfBound? (.ref x) "__ne__" [b]) Q E s := by
  have fin : wpAny (model prog w) A (call (.builtin "object.__ne__") ([.ref x] ++ [b]) >>= fun v => pure (some v)) Q E s := wpAny_bind (wpAny_mono h (fun _ _ z => wpAny_pure z) fun _ _ z => z)
  have bd := PySem.F.slot_object_ne.bind (.ref x)
  simp only [callSpecialIfBound?, bindSpecialIfBound?]
  refine wpAny_holding (wpAny_bind (wpAny_bind (wpAny_bind (I.type.here ((PySem.W.looks_findIn X hs).here (wpAny_bind (wpAny_askSetting (wpAny_ite ?_))))))))
  split
  · exact wpAny_bind (wpAny_of_eq bd (wpAny_pure (by exact fin)))
  · exact wpAny_tryCatch (wpAny_bind (wpAny_of_eq bd (wpAny_pure (by exact fin))))
theorem richNe {Q : Value → Shared → Prop} (hu0 : A.units < cLine) (hu : A.in1.units < cLine) (X : K.In s.heap) (I : PySem.W.InstAt s.heap x ox C od) (hb : PySem.W.Looks (model prog w) s.heap (typeOf b) tb) (hn : PySem.W.notFirst K C tb = true)
    (hne : PySem.W.findIn K (.ref C) "__ne__" = some (some (.builtin "object.__ne__"))) (hm : PySem.W.mroIn K C (.type "object") = some true)
    (hs : PySem.W.findIn K (.ref C) "__eq__" = some (some (.ref f))) (hf : PySem.W.isFn K (.ref f) = true)
    (h : wpAny (model prog w) A.in1 (call (.ref f) [.ref x, b]) (fun v s' => ∃ c : Bool, v = .bool c ∧ Q (.bool !c) s') E s) : wpAny (model prog w) A (richCompare .NotEq (.ref x) b) Q E s := by
  have one : wpAny (model prog w) A (tryCompare (.ref x) "__ne__" b) (fun r s' => ∃ c : Bool, r = some (.bool c) ∧ Q (.bool c) s') E s := by
    unfold tryCompare
    have k := one_call (Q := fun v s' => ∃ c : Bool, v = .bool c ∧ Q (.bool c) s') hu X I hm hs hf (wpAny_mono h (fun v s' z => by obtain ⟨c, e, q⟩ := z; exact ⟨c, e, _, rfl, q⟩) fun _ _ z => z)
    refine wpAny_bind (ifBound_ne X I hne (wpAny_mono k (fun v s' z => ?_) fun _ _ z => z))
    obtain ⟨c, rfl, q⟩ := z
    exact wpAny_pure ⟨c, rfl, q⟩
  unfold richCompare
  simp only [oneThing_ref]
  refine wpAny_holding (wpAny_bind (wpAny_cRoomFor hu0 (wpAny_bind (I.type.here (wpAny_bind (hb.here ?_))))))
  have go : ∀ {R : Option Value → Sem Value}, (∀ c s', Q (.bool c) s' → wpAny (model prog w) A (R (some (.bool c))) Q E s') → wpAny (model prog w) A (tryCompare (.ref x) "__ne__" b >>= R) Q E s := fun {R} hR =>
    wpAny_bind (wpAny_mono one (fun r s' z => by obtain ⟨c, rfl, q⟩ := z; exact hR c s' q) fun _ _ z => z)
  split
  · rename_i q
    have e : PySem.W.subIn K tb (.ref C) = some false := by
      rcases Bool.or_eq_true_iff.mp hn with e | e
      · rw [beq_iff_eq.mp e] at q
        simp at q
      · exact beq_iff_eq.mp e
    refine wpAny_bind ((PySem.W.looks_subIn X e).here ?_)
    simp only [Bool.false_eq_true, if_false]
    exact go fun c s' q => wpAny_pure q
  · refine wpAny_bind (wpAny_pure ?_)
    simp only [Bool.false_eq_true, if_false]
    exact go fun c s' q => wpAny_pure q
end
section
variable {X : Cx} {CX : CXT} {C g : Addr} {n : Nat} {sp : Sp} {E : XK}
/-- x != y, x an instance with an own == that gives truths -/
def rNeI (K : PySem.W.Frag) (C : Addr) (sp : Sp) (E : XK) : R2 := fun x y H Q => ∃ a dx fs t, x = .ref a ∧ H a = some (.ins C dx fs) ∧ TyX K H y t ∧ PySem.W.notFirst K C t = true ∧ sp [x, y] H (fun z H' => ∃ c, z = .bl c ∧ Q (.bl !c) H') E
theorem op_neI (hne : PySem.W.findIn X.K (.ref C) "__ne__" = some (some (.builtin "object.__ne__"))) (hm : PySem.W.mroIn X.K C (.type "object") = some true) (hs : PySem.W.findIn X.K (.ref C) "__eq__" = some (some (.ref g))) (hf : PySem.W.isFn X.K (.ref g) = true)
    (F : FnR X.prog X.w X.K X.mg X.base CX n g sp) (hr : Room (n + 1) X.A) (hx : Passes CX X E) : OpR X (compareOp .NotEq) (rNeI X.K C sp E) := by
  intro pins s σ H x y v u Q I rx ry hh
  obtain ⟨a, dx, fs, t, rfl, ha, ty, hn, q⟩ := hh
  cases (show v = Value.ref a from rx)
  obtain ⟨mA, O, _⟩ := ins_get I.hok ha
  obtain ⟨od, J, _⟩ := O.look
  obtain ⟨Z, kz, pz, _⟩ := kit_of I ry ty
  have hr1 : Room n X.A.in1 := Room.in1 hr
  show wpAny _ _ (richCompare .NotEq (.ref a) u) _ _ _
  refine richNe hr.units0 hr1.units0 I.kIn J (kz.ty _ _ I.kIn pz) hn hne hm hs hf ?_
  refine wpAny_mono (wpAny_call (SlX.run_at (us := [.ref a, u]) (ws := [.ref a, y]) F hr1 I.env0.in1 hx I (.cons rfl (.cons ry .nil)) q)) (fun w' s' z => ?_) fun _ _ z => z
  obtain ⟨z', H', I', rz, c, ez, qz⟩ := z
  subst ez
  cases (show w' = Value.bool c from rz)
  exact ⟨c, rfl, .bl !c, H', I', rfl, qz⟩
end
end L2.Own

namespace L2.Own
open PySem PySem.Spec PyProof.Rows Sl
/-! ## min of a list of alike data -/
open PySem.W (dataLt keyToks keyToksAll alike alikeAll AlikeAll minD)
theorem dl_negTrans {a b c : PyData} (h : dataLt a c = true) : dataLt a b = true ∨ dataLt b c = true := lex_negTrans (O := itemOrd) _ _ _ h
theorem dl_trans {a b c : PyData} (h1 : dataLt a b = true) (h2 : dataLt b c = true) : dataLt a c = true := lex_trans (O := itemOrd) _ _ _ h1 h2
theorem dl_irrefl (a : PyData) : dataLt a a = false := lex_irrefl (O := itemOrd) _
theorem minD_le : ∀ (xs : List PyData) (x : PyData), minD x xs ∈ x :: xs ∧ ∀ y ∈ x :: xs, dataLt y (minD x xs) = false
  | [], x => ⟨List.mem_cons_self, fun y hy => by rw [List.mem_singleton.mp hy]; exact dl_irrefl x⟩
  | z :: xs, x => by
    have e : minD x (z :: xs) = minD (if dataLt z x then z else x) xs := rfl
    rw [e]
    by_cases h : dataLt z x = true
    · rw [if_pos h]
      obtain ⟨h1, h2⟩ := minD_le xs z
      refine ⟨List.mem_cons_of_mem _ h1, fun y hy => ?_⟩
      rcases List.mem_cons.mp hy with q | q
      · subst q
        cases g : dataLt y (minD z xs) with
        | false => rfl
        | true => exact absurd (dl_trans h g) (by rw [h2 z List.mem_cons_self]; exact Bool.noConfusion)
      · exact h2 y q
    · rw [if_neg h]
      obtain ⟨h1, h2⟩ := minD_le xs x
      refine ⟨?_, fun y hy => ?_⟩
      · rcases List.mem_cons.mp h1 with q | q
        · rw [q]; exact List.mem_cons_self
        · exact List.mem_cons_of_mem _ (List.mem_cons_of_mem _ q)
      · rcases List.mem_cons.mp hy with q | q
        · rw [q]; exact h2 x List.mem_cons_self
        · rcases List.mem_cons.mp q with q | q
          · subst q
            cases g : dataLt y (minD x xs) with
            | false => rfl
            | true =>
              rcases dl_negTrans (b := x) g with k | k
              · exact absurd k h
              · rw [h2 x List.mem_cons_self] at k
                cases k
          · exact h2 y (List.mem_cons_of_mem _ q)
/-- min(xs): one of the items, none is less -/
def rMinD (K : PySem.W.Frag) : List V → Hp → VK → Prop := fun vs H Q => ∃ (a : Addr) (xs : List V) (d : PyData) (ds : List PyData), vs = [.ref a] ∧ SqL K H a xs ∧ DpAll K H xs (d :: ds) ∧ AlikeAll (d :: ds) ∧ PyData.depthAll (d :: ds) ≤ 8 ∧
  ∀ (i : Nat) (v : V) (e : PyData), xs[i]? = some v → (d :: ds)[i]? = some e → (∀ y ∈ d :: ds, dataLt y e = false) → Q v H
theorem cr_minD {X : Cx} (hc : X.calm = true) (hu : X.A.units + 64 < cLine) : CallR X (.builtin "min") (rMinD X.K) := by
  intro pins s σ H vs us Q I r hh
  obtain ⟨a, xs, d, ds, rfl, hs, hd, hal, hdep, q⟩ := hh
  obtain ⟨its, rv, hl, hz⟩ := I.list hs
  obtain ⟨as, ra⟩ := Dp.readsAll I _ _ _ hd rv
  rw [Vals.ref1 r]
  refine PySem.W.min_list_data (I.ok.hd hc) hl.isList (by simpa using ra) hal (by omega) fun i v h' tk bs hv hr hk => ?_
  have hv' : its[i]? = some v := by simpa using hv
  have hil : i < its.length := (List.getElem?_eq_some_iff.mp hv').1
  have hxl : i < xs.length := by rw [rv.length]; exact hil
  obtain ⟨u, hu1, ru⟩ := rv.get (List.getElem?_eq_getElem hxl)
  rw [hv'] at hu1
  cases hu1
  obtain ⟨cs, hr2, hlt, hmem, _⟩ := PySem.W.readsAll_at ra i v hv'
  have hr3 : Reads h' v ((d :: ds).getD i .none) cs := PySem.W.reads_keeps hk hr2
  obtain ⟨m1, m2⟩ := minD_le ds d
  have e : (d :: ds).getD i .none = minD d ds := PySem.W.alike_unique _ _ v cs bs (hal.1 _ hmem _ m1) hr3 hr
  refine ⟨xs[i], H, I.kept hk, ru, q i _ (minD d ds) (List.getElem?_eq_getElem hxl) ?_ m2⟩
  rw [← e, List.getElem?_eq_getElem hlt]
  simp [List.getD, List.getElem?_eq_getElem hlt]
/-! ## tuples of texts by their order -/
def ltT (as bs : List Str) : Bool := dataLt (.tuple (as.map PyData.str)) (.tuple (bs.map PyData.str))
theorem toks_inj : ∀ {as bs : List Str}, keyToksAll (as.map PyData.str) = keyToksAll (bs.map PyData.str) → as = bs
  | [], [], _ => rfl
  | [], b :: bs, h => by
    simp only [List.map_nil, List.map_cons, keyToksAll] at h
    cases h
  | a :: as, [], h => by
    simp only [List.map_nil, List.map_cons, keyToksAll] at h
    cases h
  | a :: as, b :: bs, h => by
    simp only [List.map_cons, keyToksAll, keyToks] at h
    have h1 := (List.cons.inj h).2
    have h2 := List.cons.inj (show Sum.inr a.cps.toList :: keyToksAll (as.map PyData.str) = Sum.inr b.cps.toList :: keyToksAll (bs.map PyData.str) from h1)
    have h3 : a = b := PySem.W.str_of_cps (Sum.inr.inj h2.1)
    rw [h3, toks_inj h2.2]
theorem ltT_total {as bs : List Str} (h1 : ltT as bs = false) (h2 : ltT bs as = false) : as = bs := by
  have e := lex_total (O := itemOrd) _ _ h1 h2
  simp only [keyToks] at e
  exact toks_inj e
theorem alike_strs : ∀ as bs : List Str, alikeAll (as.map PyData.str) (bs.map PyData.str) = true
  | [], _ => by simp [alikeAll]
  | _ :: _, [] => by simp [alikeAll]
  | a :: as, b :: bs => by simp [alikeAll, alike, alike_strs as bs]
end L2.Own

namespace L2.Own
open PySem PySem.Spec PyProof.Rows Sl
/-! ## t * k of a tuple, k from 1 on -/
theorem tuple_mul1 (l : Addr) (xs : Array Value) (n : Nat) (dd : Option Addr) (sl : Array (Option Value)) (u : Tok) :
    Meets (Builtin.«tuple.__mul__» ⟨[.ref l, .int 1 u], []⟩) (fun _ R s => s.heap.get? l = some { cls := .type "tuple", dict := dd, data := .seq xs n, slots := sl } ∧ R (.ok (.ret (Value.ref l))) s) :=
  .of_wp fun prog w A R s hh => by
    obtain ⟨hp, g, d, tk, os⟩ := s
    obtain ⟨hl, hq⟩ := hh
    have f1 := AutoSeq1.idx_int
    have c1 : (xs.isEmpty || (1 : Int) == 1) = true := by rw [show ((1 : Int) == 1) = true by decide, Bool.or_true]
    wp_walk using wpAny_loadPart' hl
    repeat (first
      | (refine wpAny_ite_false (decide_eq_false (by decide)) ?_; wp_walk using wpAny_loadPart' hl)
      | (refine wpAny_ite_true (decide_eq_true c1) ?_; wp_walk using wpAny_loadPart' hl))
    exact ⟨_, rfl, hq⟩
section
variable {X : Cx}
/-- t * 1 is t; t * k a new one, or t -/
def rRepO (K : PySem.W.Frag) : R2 := fun x y H Q => ∃ l k xs, x = .ref l ∧ y = .int k ∧ H l = some (.tup xs) ∧ xs ≠ [] ∧ 1 ≤ k ∧ k ≤ 1000 ∧ xs.length ≤ 1000 ∧
  ∀ H' p, Same H H' → H' p = some (.tup (List.replicate k.toNat xs).flatten) → Q (.ref p) H'
theorem op_repO : OpR X (binaryOp .Mult) (rRepO X.K) := by
  intro pins s σ H x y v u Q I rx ry hh
  obtain ⟨l, k, xs, rfl, rfl, hT, hne, h1, h2, hz, q⟩ := hh
  by_cases hk : k = 1
  · subst hk
    cases rx
    obtain ⟨t, rfl⟩ := ry
    obtain ⟨its, r, ⟨⟨cls, dd, data, sl⟩, ho, hc, n, hd⟩, hs⟩ := I.tuple (SqT.of hT)
    simp only at hc hd
    subst hc hd
    refine wpAny_binaryOp_repeat_ref (T := "tuple") (U := "int") (by decide) ⟨_, ho, rfl⟩ (fun s' => typeIs_int s' 1 t) noFill_tuple_mul PySem.F.fills_int_mul PySem.F.slot_int_rmul repeat_tuple PySem.F.slot_int_index.lookup
      (call_meets PySem.F.slot_int_rmul (typeIs_int s 1 t) PySem.F.entry_int_rmul (PySem.F.args_int_rmul_2 _ _) (int_rmul_tuple 1 t l its.toArray n dd sl)
        ⟨ho, rfl, ⟨_, ho, rfl⟩, call_meets PySem.F.slot_tuple_mul ⟨_, ho, rfl⟩ PySem.F.entry_tuple_mul (PySem.F.args_tuple_mul_2 _ _) (tuple_mul1 l its.toArray n dd sl t) ⟨ho, ?_⟩⟩)
    exact ⟨.ref l, H, I, rfl, q H l (Same.refl H) (by rw [hT]; simp)⟩
  · exact op_repT pins s σ H _ _ v u Q I rx ry ⟨l, k, xs, rfl, rfl, SqT.of hT, hne, by omega, h2, hz, fun p hp => q _ p (same_new hp) upd_same⟩
end
end L2.Own

namespace Sl
open PySem PySem.Spec PyProof.Rows L2
/-- a list of two whole numbers, from which is drawn -/
def PoolB (H : Hp) (p : Addr) : Prop := ∃ n m : Int, H p = some (.lst [.int n, .int m]) ∧ 0 ≤ m ∧ m < 1000000000000
theorem PoolB.same {H H' : Hp} {p : Addr} (s : Same H H') (h : PoolB H p) : PoolB H' p := let ⟨n, m, e, q⟩ := h; ⟨n, m, s _ _ e, q⟩
theorem PoolB.new {H : Hp} {p q : Addr} {o : HO} (hq : H q = none) (h : PoolB H p) : PoolB (L2.upd H q o) p := h.same (same_new hq)
theorem PoolB.lst {H : Hp} {p : Addr} (h : PoolB H p) : ∃ xs, H p = some (.lst xs) := let ⟨n, m, e, _⟩ := h; ⟨_, e⟩
theorem PoolB.ne {H : Hp} {p q : Addr} (h : PoolB H p) (hq : H q = none) : q ≠ p := fun e => by
  obtain ⟨n, m, k, _⟩ := h
  rw [e, k] at hq
  cases hq
theorem free_butB {p : Addr} {H H' : Hp} {l : Addr} (hp : PoolB H' p) (b : But p H H') (h : H' l = none) : H l = none := by
  cases q : H l with
  | none => rfl
  | some o =>
    by_cases e : l = p
    · exact absurd e (hp.ne h)
    · rw [b l o e q] at h
      cases h
/-- the same while something is drawn from the list at p -/
structure LcB (p : Addr) (H : Hp) (D : Addr) (H' : Hp) (xs : List V) : Prop where
  it : H' D = some (.lst xs)
  but : But p H H'
  new : H D = none
  pool : PoolB H' p
  ne : D ≠ p
theorem LcB.start {p : Addr} {H : Hp} {D : Addr} (h : H D = none) (hp : PoolB H p) : LcB p H D (L2.upd H D (.lst [])) [] :=
  ⟨upd_same, But.of (same_new h), h, hp.new h, fun e => by
    obtain ⟨n, m, q, _⟩ := hp
    rw [e, q] at h
    cases h⟩
theorem LcB.keep {p : Addr} {H H' H4 : Hp} {D : Addr} {xs : List V} (h : LcB p H D H' xs) (s : But p H' H4) (q : PoolB H4 p) : LcB p H D H4 xs := ⟨s _ _ h.ne h.it, h.but.trans s, h.new, q, h.ne⟩
theorem LcB.push {p : Addr} {H H' : Hp} {D : Addr} {xs : List V} {y : V} (h : LcB p H D H' xs) : LcB p H D (L2.upd H' D (.lst (xs ++ [y]))) (xs ++ [y]) :=
  ⟨upd_same, fun b o n e => by
    rw [upd_ne (ne_of_none e h.new)]
    exact h.but b o n e, h.new, by
    obtain ⟨m, m2, q, q2⟩ := h.pool
    exact ⟨m, m2, by rw [upd_ne (Ne.symm h.ne)]; exact q, q2⟩, h.ne⟩
end Sl

namespace L2.Own
open PySem PySem.Spec PyProof.Rows Sl
section
variable {X : Cx} {CX : CXT} {k : Nat} {f : Addr} {fd : FuncData} {ps ks : List Str} {sp : Sp} {E : XK} {x : Str} {p pos : Pos} {kws : List Keyword} {tk : TA} {g : List Value → List Value → List Value} {gV : List V → List V → List V}
/-- f(k = v, ..): no value by its place -/
def tCallK0 (sp : Sp) (m : Nat) (gV : List V → List V → List V) (E : XK) (tk : TA) : TE := fun σ H Q => tk σ H fun zs H2 => zs.length = m ∧ sp (gV [] zs) H2 Q E
theorem pe_callK0 (F : FnOk X.prog X.w X.K X.mg X.base CX k f fd ps sp) (hr : Room k X.A) (hg : Gl X x) (hm : X.mg x = some (.ref f)) (hk : PySem.W.keepIn X.K (.ref f) = true) (hb : KBn X.K fd ps 0 ks g gV) (hx : Passes CX X E) (hkw : PK X kws tk)
    (hall : (backToKw pos (keywordEach kws X.env)).all (·.1.isSome) = true := by rfl) (hks : (backToKw pos (keywordEach kws X.env)).filterMap (·.1) = ks := by rfl) (hdb : (x == ("__debug__" : Str)) = false := by decide)
    (hpl : ((backTo pos (starEach [] X.env)).any (·.1) || (backToKw pos (keywordEach kws X.env)).any (·.1.isNone)) = false := by rfl) : PE X (.Call (.Name x p) [] kws pos) (tCallK0 sp ks.length gV E tk) := by
  refine ⟨fun pins s σ H Q I hh => wpAny_Call_Name_kw (ld_glob I hg hm (PySem.W.callWith_KW0 (h₀ := X.base) I.ok.mod.kin hk hall ?_ hpl) hdb)⟩
  refine thn (hkw.run pos pins s σ H _ I hh) fun ws s2 ⟨zs, H2, I2, rz, l2, q2⟩ => ⟨I2.kIn, ?_⟩
  rw [hks]
  have r2 := hb.rel (vs := []) (us := []) .nil rz
  have b := hb.to s2 [] ws I2.kIn rfl (by rw [← rz.length]; exact l2)
  refine wpAny_call (codeAny_mono (F.run X.A X.stack s2 H2 ⟨[], ks.zip ws⟩ (g [] ws) (gV [] zs) Q E hr I2.env0 b r2 q2) fun r s' hq => ?_)
  cases r with
  | error e => exact hx pins σ H2 s2 e s' I2 hq
  | ok fl =>
    cases fl with
    | ret u => exact I2.after hq
    | next => exact hq.elim
    | brk => exact hq.elim
    | cont => exact hq.elim
end
end L2.Own

namespace Sl
open PySem PySem.Spec PyProof.Rows L2
theorem PoolAt.lst {H : Hp} {p : Addr} (h : PoolAt H p) : ∃ xs, H p = some (.lst xs) := let ⟨n, e⟩ := h; ⟨_, e⟩
theorem PoolAt.ne {H : Hp} {p q : Addr} (h : PoolAt H p) (hq : H q = none) : q ≠ p := fun e => by
  obtain ⟨n, h⟩ := h
  rw [e, h] at hq
  cases hq
theorem free_butA {p : Addr} {H H' : Hp} {l : Addr} (hp : PoolAt H' p) (b : But p H H') (h : H' l = none) : H l = none := by
  have hn := hp.ne h
  cases hh : H l with
  | none => rfl
  | some o =>
    rw [b _ _ hn hh] at h
    cases h
/-- a list that stands while is drawn -/
theorem pick_keep {H H2 : Hp} {p c : Addr} {o : HO} (hp : PoolAt H p) (hc : H c = none) (b : But p (L2.upd H c o) H2) : H2 c = some o ∧ But p H H2 ∧ c ≠ p := by
  have hn := hp.ne hc
  exact ⟨b _ _ hn upd_same, (But.of (same_new hc)).trans b, hn⟩
theorem pick_keepB {H H2 : Hp} {p c : Addr} {o : HO} (hp : PoolB H p) (hc : H c = none) (b : But p (L2.upd H c o) H2) : H2 c = some o ∧ But p H H2 ∧ c ≠ p := by
  have hn := hp.ne hc
  exact ⟨b _ _ hn upd_same, (But.of (same_new hc)).trans b, hn⟩
theorem at_any {xs : List V} {e : Int} (h0 : 0 ≤ e) (h1 : e < (xs.length : Nat)) : ∃ v, atI xs e = some v ∧ v ∈ xs := by
  have hd : e.toNat < xs.length := by omega
  have g : xs[e.toNat]? = some xs[e.toNat] := List.getElem?_eq_getElem hd
  refine ⟨_, ?_, List.mem_of_getElem? g⟩
  have := atI_nat g
  rw [Int.toNat_of_nonneg h0] at this
  exact this
theorem but_new {p : Addr} {H H1 H2 : Hp} (s : Same H H1) (hp : H p = none) (b : But p H1 H2) : Same H H2 := fun x o h => b x o (ne_of_none h hp) (s x o h)
theorem Tups.poolA {p : Addr} {H H' : Hp} (hp : PoolAt H p) (s : But p H H') : Tups H H' := let ⟨_, h⟩ := hp.lst; Tups.but h s
theorem Tups.poolB {p : Addr} {H H' : Hp} (hp : PoolB H p) (s : But p H H') : Tups H H' := let ⟨_, h⟩ := hp.lst; Tups.but h s
theorem big30 : (10 : Int) ^ (30 : Int).toNat = 1000000000000000000000000000000 := by decide
/-- an instance as it is made: what stood stands -/
theorem mk_new {H : Hp} {x dx C : Addr} (hx : H x = none) (hdx : H dx = none) (ne : dx ≠ x) : Same H (L2.upd (L2.upd H dx (.own x)) x (.ins C dx [])) := (same_new hdx).trans (same_new (by rw [upd_ne (Ne.symm ne)]; exact hx))
theorem mk_same {H H' : Hp} {x dx C : Addr} (hx : H x = none) (hdx : H dx = none) (ne : dx ≠ x) (pres : ∀ b o, b ≠ x → (L2.upd (L2.upd H dx (.own x)) x (.ins C dx [])) b = some o → H' b = some o) : Same H H' :=
  fun b o hb => pres b o (ne_of_none hb hx) (mk_new hx hdx ne _ _ hb)
end Sl

namespace L2.Own
open PySem PySem.Spec PyProof.Rows
/-! ## calls with keywords: each parameter's value is picked from the written ones, the defaults, the keywords' -/
def pick {α : Type} (ix : List Nat) (l : List α) : List α := ix.filterMap fun i => l[i]?
theorem pick_vals {xs : List V} {ys : List Value} (h : Vals xs ys) : ∀ ix : List Nat, Vals (pick ix xs) (pick ix ys)
  | [] => .nil
  | i :: ix => by
    have t := pick_vals h ix
    unfold pick at t ⊢
    rcases Nat.lt_or_ge i xs.length with hi | hi
    · have hx : xs[i]? = some xs[i] := List.getElem?_eq_getElem hi
      obtain ⟨u, hu, r⟩ := h.get hx
      rw [List.filterMap_cons_some hx, List.filterMap_cons_some hu]
      exact .cons r t
    · have hy : ys.length ≤ i := by rw [← h.length]; exact hi
      rw [List.filterMap_cons_none (List.getElem?_eq_none hi), List.filterMap_cons_none (List.getElem?_eq_none hy)]
      exact t
section
variable {K : PySem.W.Frag} {x qual : Str} {params : Arguments} {body : List Stmt} {scope : Scope} {dvs : List V} {kws : List (Str × V)} {f : Addr} {fd : FuncData} {ps : List Str}
theorem kb_dfl (F : FunD K x qual params body scope dvs kws f fd) (n : Nat) (ks : List Str) (ix : List Nat) (hd : dvs ≠ [])
    (h : ∀ (T : Addr) (kV doc pm : Value) (an : Option Addr) (cdv ct : Value) (us its ws : List Value), us.length = n → its.length = dvs.length → ws.length = ks.length →
      ∃ k, bindArgs (PySem.W.fnOf x qual params body scope (.ref T) kV doc pm an cdv ct) ⟨us, ks.zip ws⟩ = seqItems? (.ref T) >>= k ∧ k (some its.toArray) = pure (ps.zip (pick ix (us ++ its ++ ws)))) :
    ∃ its : List Value, KBn K fd ps n ks (fun us ws => pick ix (us ++ its ++ ws)) (fun vs zs => pick ix (vs ++ dvs ++ zs)) :=
  F.kbindsD n ks (fun us its ws => pick ix (us ++ its ++ ws)) hd (fun h1 h2 h3 => pick_vals ((h1.append h2).append h3) ix) h
theorem kb_own (F : FunD K x qual params body scope [] kws f fd) (n : Nat) (ks : List Str) (ix : List Nat)
    (h : ∀ (kV doc pm : Value) (an : Option Addr) (cdv ct : Value) (us ws : List Value), us.length = n → ws.length = ks.length →
      bindArgs (PySem.W.fnOf x qual params body scope .none kV doc pm an cdv ct) ⟨us, ks.zip ws⟩ = pure (ps.zip (pick ix (us ++ [] ++ ws)))) :
    ∃ its : List Value, KBn K fd ps n ks (fun us ws => pick ix (us ++ its ++ ws)) (fun vs zs => pick ix (vs ++ [] ++ zs)) := by
  obtain ⟨oc, od, dV, kV, doc, pm, an, cdv, ct, osl, e, lk, hcd, hD, hK⟩ := F.ex
  rcases hD with ⟨_, rfl⟩ | ⟨z, _⟩
  · refine ⟨[], ⟨fun s us ws X l1 l2 => ?_, fun r1 r2 => pick_vals ((r1.append .nil).append r2) ix⟩⟩
    rw [e]
    exact .of_eq (h kV doc pm an cdv ct us ws l1 l2)
  · exact absurd rfl z
end
end L2.Own

namespace L2.Own
open PySem PySem.Spec PyProof.Rows
/-! ## sets of texts: made of a list or a tuple, and put in order -/
/-- the text that an entry keeps -/
def tx (e : Int × Value) : Str := match e.2 with
  | .str z _ => z
  | _ => Str.empty
def Tx (P : Program) (w : World) (e : Int × Value) : Prop := ∃ z u, e.2 = Value.str z u ∧ e.1 = (PySem.strKind P w).hash z
/-- the set at a has just the texts ks -/
def TxSet (P : Program) (w : World) (h : Heap) (a : Addr) (ks : List Str) : Prop :=
  ks.Nodup ∧ ∃ (ob : Obj) (en : Array (Int × Value)) (age : Nat) (tb : SetTable), h.get? a = some ob ∧ ob.ExactSet ∧ ob.data = .set en age tb ∧ (∀ e ∈ en.toList, Tx P w e) ∧ (en.toList.map tx).Perm ks ∧
    en.size < scanBound ∧ tb.fits en.size = true ∧ Ris tb.place.toList ∧ (w.params.followText "set-order" = true ∨ tb.led = true)
/-- a set as it is made -/
def nu (w : World) : Obj := { cls := .type "set", dict := none, data := .set #[] 0 (.fresh 0 0 (!w.params.followText "set-order")) }
section
variable {P : Program} {w : World} {A : Around} {E : Value → Shared → Prop} {s : Shared} {a : Addr} {ks : List Str}
theorem TxSet.to {h h' : Heap} (R : TxSet P w h a ks) (q : ∀ o, h.get? a = some o → h'.get? a = some o) : TxSet P w h' a ks :=
  let ⟨nd, ob, en, age, tb, ho, r⟩ := R
  ⟨nd, ob, en, age, tb, q ob ho, r⟩
theorem tx_elems {l : List (Int × Value)} (g : ∀ e ∈ l, Tx P w e) : ElemsOf (PySem.strKind P w) l := by
  intro e he
  obtain ⟨z, u, e1, e2⟩ := g e he
  refine ⟨⟨z, ?_, e2⟩, ?_⟩ <;> rw [e1]
  · exact strKind_is P w z u
  · rfl
theorem tx_is {e : Int × Value} (g : Tx P w e) (z : Str) : (PySem.strKind P w).is z e.2 = true ↔ tx e = z := by
  obtain ⟨y, u, e1, _⟩ := g
  unfold tx
  rw [e1]
  constructor
  · intro h
    have h' : Value.isStrOf z (.str y u) = true := h
    obtain ⟨t, ht⟩ := Value.isStrOf_shape h'
    injection ht
  · rintro rfl
    exact strKind_is P w _ u
theorem TxSet.nu {h : Heap} (ho : h.get? a = some (nu w)) : TxSet P w h a [] := by
  refine ⟨List.nodup_nil, _, #[], 0, _, ho, ⟨rfl, rfl, rfl⟩, rfl, ?_, List.Perm.refl _, by decide, by rfl, List.Pairwise.nil, ?_⟩
  · intro e he
    simp at he
  · show _ ∨ (!w.params.followText "set-order") = true
    cases w.params.followText "set-order"
    · exact .inr rfl
    · exact .inl rfl
/-- the entries stored anew, the table laid anew where it is too full -/
theorem tx_store {gave : Bool → Sem Unit} (hg : ∀ b (s1 : Shared) (R : Unit → Shared → Prop), R () s1 → wpAny (model P w) A (gave b) R E s1)
    {ob : Obj} {en en1 : Array (Int × Value)} {age : Nat} {tb tb1 : SetTable} (ho : s.heap.get? a = some ob) (hx : ob.ExactSet) (hd : ob.data = .set en age tb)
    (nd : ks.Nodup) (g : ∀ e ∈ en1.toList, Tx P w e) (pm : (en1.toList.map tx).Perm ks) (hb : en1.size < scanBound) (hf : tb1.fits en1.size = true) (hr : Ris tb1.place.toList)
    (hl : w.params.followText "set-order" = true ∨ tb1.led = true) {dummy : Bool} {R : Option Bool → Shared → Prop}
    (hR : ∀ h', Heap.SameBut a s.heap h' → TxSet P w h' a ks → R (some true) { s with heap := h' }) :
    wpAny (model P w) A (do
      storeSet a en1 tb1
      if (!dummy && tb1.tooFull) = true then do
        gave (relayAll tb1 en1 (SetTable.grown en1.size)).2.2
        storeSet a (relayAll tb1 en1 (SetTable.grown en1.size)).1 (relayAll tb1 en1 (SetTable.grown en1.size)).2.1
        pure (some true)
      else pure (some true)) R E s := by
  refine wpAny_bind (wpAny_storeSet_of ho hd ?_ (fits_of_scanBound hb))
  have st1 := store_at (es' := en1) (t' := tb1) ho hd
  have k1 := Heap.SameBut.update s.heap a (Obj.putSet en1 tb1)
  by_cases full : (!dummy && tb1.tooFull) = true
  · rw [if_pos full]
    have p2 := relayAll_perm tb1 en1 (SetTable.grown en1.size)
    have f2 := relayAll_fits tb1 en1 (SetTable.grown en1.size)
    have r2 := relayAll_ris tb1 en1 (SetTable.grown en1.size)
    have l2 := relayAll_led tb1 en1 (SetTable.grown en1.size)
    rcases hZ : relayAll tb1 en1 (SetTable.grown en1.size) with ⟨en2, tb2, gv⟩
    rw [hZ] at p2 f2 r2 l2
    dsimp only at p2 f2 r2 l2 ⊢
    have b2 : en2.size < scanBound := by
      have := p2.length_eq
      rw [Array.length_toList, Array.length_toList] at this
      omega
    refine wpAny_bind (hg _ _ _ (wpAny_bind (wpAny_storeSet_of st1 rfl ?_ (fits_of_scanBound b2))))
    refine wpAny_pure (hR _ (k1.trans (Heap.SameBut.update _ a _)) ⟨nd, _, en2, _, tb2, store_at (es' := en2) (t' := tb2) st1 rfl, hx, rfl, fun e he => g e (p2.mem_iff.mp he), (p2.map tx).trans pm, b2, f2, r2, ?_⟩)
    rcases hl with z | z
    · exact .inl z
    · exact .inr (l2.trans z)
  · rw [if_neg full]
    exact wpAny_pure (hR _ k1 ⟨nd, _, en1, _, tb1, st1, hx, rfl, g, pm, hb, hf, hr, hl⟩)
/-- a text more -/
theorem tx_add {z : Str} {u : Tok} {Q : Bool → Shared → Prop} (R : TxSet P w s.heap a ks) (room : ks.length + 1 < scanBound)
    (h1 : z ∈ ks → Q false s) (h2 : z ∉ ks → ∀ h', Heap.SameBut a s.heap h' → TxSet P w h' a (z :: ks) → Q true { s with heap := h' }) :
    wpAny (model P w) A (setAddHashed a (.str z u) ((PySem.strKind P w).hash z)) Q E s := by
  obtain ⟨nd, ob, en, age, tb, ho, hx, hd, g, pm, hb, hf, hr, hl⟩ := R
  have el := tx_elems g
  have hen : en.size = ks.length := by
    rw [← pm.length_eq, List.length_map, Array.length_toList]
  unfold setAddHashed setAddHashedIn
  refine wpAny_holding (wpAny_bind (wpAny_setState_of ho hd hf ?_))
  dsimp only
  rw [byScan_of (x := .str z u) rfl hb el]
  simp only [↓reduceIte]
  unfold setAddByScan
  refine wpAny_bind (wpAny_bind (wpAny_rule (wpAny_bind (wpAny_setScan_of (strKind_is P w z u) ho hd hf el ?_))))
  have mem : z ∈ ks ↔ ∃ e ∈ en.toList, (PySem.strKind P w).is z e.2 = true := by
    rw [← pm.mem_iff, List.mem_map]
    constructor
    · rintro ⟨e, he, hz⟩
      exact ⟨e, he, (tx_is (g e he) z).mpr hz⟩
    · rintro ⟨e, he, hz⟩
      exact ⟨e, he, (tx_is (g e he) z).mp hz⟩
  rcases hfi : List.findIdx? (fun e => (PySem.strKind P w).is z e.2) en.toList with _ | j
  · have hno : z ∉ ks := fun hz => by
      obtain ⟨e, he, c⟩ := mem.mp hz
      have := List.findIdx?_eq_none_iff.mp hfi e he
      rw [c] at this
      cases this
    have quiet : ∀ b (s1 : Shared) (R : Unit → Shared → Prop), R () s1 → wpAny (model P w) A (match b with | true => rule "set.scan.the-table-gave-way" | false => pure ()) R E s1 := fun b s1 R q => by
      cases b
      · exact wpAny_pure q
      · exact wpAny_rule q
    rw [hfi]
    dsimp only
    have p1 := layNew_perm tb en ((PySem.strKind P w).hash z) (.str z u)
    have f1 := layNew_fits tb en ((PySem.strKind P w).hash z) (.str z u)
    have r1 := layNew_ris tb en ((PySem.strKind P w).hash z) (.str z u) hr
    have l1 := layNew_led tb en ((PySem.strKind P w).hash z) (.str z u)
    rcases hZ : layNew tb en ((PySem.strKind P w).hash z) (.str z u) with ⟨en1, tb1, dm, gv⟩
    rw [hZ] at p1 f1 r1 l1
    dsimp only at p1 f1 r1 l1 ⊢
    rw [Array.toList_push] at p1
    have p2 : en1.toList.Perm (((PySem.strKind P w).hash z, Value.str z u) :: en.toList) := p1.trans (List.perm_append_singleton _ _)
    have g1 : ∀ e ∈ en1.toList, Tx P w e := fun e he => by
      rcases List.mem_cons.mp (p2.mem_iff.mp he) with q | q
      · exact ⟨z, u, by rw [q], by rw [q]⟩
      · exact g e q
    have pm1 : (en1.toList.map tx).Perm (z :: ks) := (p2.map tx).trans (pm.cons z)
    have b1 : en1.size < scanBound := by
      have := pm1.length_eq
      rw [List.length_map, Array.length_toList, List.length_cons] at this
      omega
    have l2 : w.params.followText "set-order" = true ∨ tb1.led = true := by
      rcases hl with q | q
      · exact .inl q
      · exact .inr (l1.trans q)
    have nd1 : (z :: ks).Nodup := List.nodup_cons.mpr ⟨hno, nd⟩
    refine wpAny_bind (quiet _ _ _ ?_)
    split
    · refine wpAny_bind ?_
      rw [hashByValue_scannable 8 (x := .str z u) rfl]
      refine wpAny_pure ?_
      refine tx_store quiet ho hx hd nd1 g1 pm1 b1 ?_ ?_ ?_ fun h' sb r => ?_
      · first | exact f1 | (split <;> first | exact f1 | exact SetTable.fits_plain_off f1)
      · first | exact r1 | (split <;> exact r1)
      · first | exact l2 | (split <;> exact l2)
      · dsimp only
        exact wpAny_pure (h2 hno h' sb r)
    · refine wpAny_bind (wpAny_pure ?_)
      simp only [↓reduceIte]
      refine tx_store quiet ho hx hd nd1 g1 pm1 b1 f1 r1 l2 fun h' sb r => ?_
      dsimp only
      exact wpAny_pure (h2 hno h' sb r)
  · rw [hfi]
    dsimp only
    obtain ⟨hj, pj, _⟩ := List.findIdx?_eq_some_iff_getElem.mp hfi
    exact wpAny_pure (wpAny_pure (h1 (mem.mpr ⟨_, List.getElem_mem hj, pj⟩)))
/-- each text that is walked over is put in -/
theorem tx_walk {it : Addr} {fp wr : List Addr} {G : Array GenState → Array GenState → Prop} {n : Nat} {Pv : Nat → Value → Prop} {St : Nat → Shared → Prop} {R : Result → Shared → Prop}
    (W : WalksS P w A.in1 it fp wr G n Pv St) (ha : a ∉ fp) (xs : List Str) (hn : n = xs.length) (hb : xs.length + 1 < scanBound) (hv : ∀ i v, Pv i v → ∃ z u, xs[i]? = some z ∧ v = .str z u) :
    ∀ (left i : Nat) (s : Shared) (ks : List Str), i + left = n → St i s → TxSet P w s.heap a ks → (∀ z, z ∈ ks ↔ z ∈ xs.take i) → ks.length ≤ i →
      (∀ s' ks', Moved (a :: wr) G s s' → TxSet P w s'.heap a ks' → (∀ z, z ∈ ks' ↔ z ∈ xs) → R (.ok (.ret .none)) s') →
      codeAny (model P w) A (.builtin "set.update.loop" ⟨[.ref a, .ref it], []⟩) R s
  | 0, i, s, ks, hi, st, hS, hm, hk, hR => by
    have e : n = i := by omega
    subst e
    refine codeAny_builtin F.entry_set_update_loop ?_
    rw [Around.under_plainId F.plain_set_update_loop _]
    refine wpAny_bind (m := pyNext (.ref it)) (W.done s _ _ st fun s' mv => ?_)
    refine wpAny_pure (hR s' ks (mv.mono fun b hb => List.mem_cons_of_mem _ hb) (hS.to fun o q => mv.heap a o (fun z => ha (W.sub _ z)) q) fun z => ?_)
    rw [hm, hn, List.take_length]
  | left + 1, i, s, ks, hi, st, hS, hm, hk, hR => by
    have hlt : i < n := by omega
    have naw : a ∉ wr := fun z => ha (W.sub _ z)
    refine codeAny_builtin F.entry_set_update_loop ?_
    rw [Around.under_plainId F.plain_set_update_loop _]
    refine wpAny_bind (m := pyNext (.ref it)) (W.item i s _ _ hlt st fun v s' hP st' mv => ?_)
    obtain ⟨z, u, hz, rfl⟩ := hv i v hP
    have hS' := hS.to (h' := s'.heap) fun o q => mv.heap a o naw q
    have mv2 : Moved (a :: wr) G s s' := mv.mono fun b hb => List.mem_cons_of_mem _ hb
    have next : ∀ (h' : Heap) (ks' : List Str), Heap.SameBut a s'.heap h' → TxSet P w h' a ks' → (∀ y, y ∈ ks' ↔ y ∈ xs.take (i + 1)) → ks'.length ≤ i + 1 →
        codeAny (model P w) A (.builtin "set.update.loop" ⟨[.ref a, .ref it], []⟩) R { s' with heap := h', toks := s'.toks + 1 } := fun h' ks' sb hS2 hm2 hk2 => by
      refine tx_walk W ha xs hn hb hv left (i + 1) _ ks' (by omega) ?_ hS2 hm2 hk2 fun s2 ks2 mv3 hS3 hm3 => hR s2 ks2 ?_ hS3 hm3
      · refine W.frame _ s' _ _ st' (Nat.le_succ _) fun b hb o q => ?_
        rw [sb.2 b fun z => ha (z ▸ hb)]
        exact q
      · refine Moved.trans W.gtrans (mv2.then_heap (Nat.le_succ _) fun b o hb q => ?_) mv3
        rw [sb.2 b fun z => hb (z ▸ List.mem_cons_self)]
        exact q
    show wpAny _ A.in1 (holding [Value.str z u] (setAdd a (.str z u)) >>= _) _ _ s'
    refine wpAny_bind (wpAny_holding ?_)
    unfold setAdd
    refine wpAny_holding (wpAny_bind ((PySem.strKind P w).pyHash (strKind_is P w z u) ?_))
    have et : xs.take (i + 1) = xs.take i ++ [z] := by rw [List.take_succ, hz]; rfl
    refine tx_add (s := { s' with toks := s'.toks + 1 }) hS' (by omega) (fun hin => ?_) fun hno h' sb r => ?_
    · refine wpAny_pure ⟨plainId_quiet F.plain_set_update_loop _, next _ ks (Heap.SameBut.refl a s'.heap) hS' (fun y => ?_) (by omega)⟩
      rw [et, hm, List.mem_append, List.mem_singleton]
      exact ⟨.inl, fun q => q.elim id fun e => by rw [e]; exact (hm z).mp hin⟩
    · refine wpAny_pure ⟨plainId_quiet F.plain_set_update_loop _, next h' (z :: ks) sb r (fun y => ?_) (by rw [List.length_cons]; omega)⟩
      rw [et, List.mem_cons, hm, List.mem_append, List.mem_singleton]
      exact Or.comm
/-- sorted(SET) -/
theorem tx_sorted {Q : Value → Shared → Prop} (R : TxSet P w s.heap a ks) (hh : A.handled = none)
    (hQ : ∀ (s' : Shared) (p : Addr) (out : Array Value) (c : Nat) (ys : List Str), (∀ b o, s.heap.get? b = some o → s'.heap.get? b = some o) → s'.gens = s.gens → s'.os = s.os → s.heap.objs.size ≤ p →
      s'.heap.get? p = some (seqObj "list" out c) → StrsAre out.toList ys → ys.Perm ks → sortedS ys = true → Q (.ref p) s') :
    wpAny (model P w) A (call (.builtin "sorted") [.ref a]) Q E s := by
  obtain ⟨nd, ob, en, age, tb, ho, hx, hd, g, pm, hb, hf, hr, hl⟩ := R
  refine Calls.call_function_entry kind_sorted plain_sorted entry_sorted (args_sorted1 _) ?_
  unfold Builtin.«sorted»
  refine wpAny_bind (m := checkCount "sorted" 1 1 _) (wpAny_pure (wpAny_bind (collect_set (A := A.in1) hh ⟨ob, ho, hx.1, hd⟩ hf hb hr hl fun s1 vs keep more eg eo pv => ?_)))
  have hvl : vs.length = en.size := by rw [pv.length_eq, List.length_map, Array.length_toList]
  have hsz : vs.length ≤ sizeLine := by rw [hvl]; exact fits_of_scanBound hb
  have txts : ∀ l : List Value, (∀ v ∈ l, ∃ z u, v = Value.str z u) → StrsAre l (l.map fun v => tx (0, v)) := fun l => by
    induction l with
    | nil => exact fun _ => .nil
    | cons v l ih =>
      intro h
      obtain ⟨z, u, rfl⟩ := h v List.mem_cons_self
      exact .cons z u (ih fun x hx => h x (List.mem_cons_of_mem _ hx))
  have hS := txts vs fun v hv => by
    obtain ⟨e, he, rfl⟩ := List.mem_map.mp (pv.mem_iff.mp hv)
    obtain ⟨z, u, e1, _⟩ := g e he
    exact ⟨z, u, e1⟩
  have pk : (vs.map fun v => tx (0, v)).Perm ks := by
    have q := pv.map fun v => tx (0, v)
    rw [List.map_map] at q
    exact q.trans pm
  refine wpAny_bind (wpAny_newList ?_ hsz)
  have hL : (s1.heap.push (seqObj "list" vs.toArray 0)).get? s1.heap.objs.size = some (seqObj "list" vs.toArray 0) := Heap.get?_push_size _ rfl
  refine wpAny_bind (wpAny_holding (wpAny_call_entry slot_list_sort ⟨_, hL, rfl⟩ entry_list_sort
    (list_sort_treeKAny strKind_oneLt hL hS.keysOf (fun _ _ _ e => keyKind_strs (by rw [← e]; exact hS)) hsz fun st' hp hs => ⟨_, rfl, ?_⟩) (args_list_sort _)))
  obtain ⟨ys, y1, y2, y3⟩ := sorted_out_str hS hp hs
  obtain ⟨c, hc⟩ := sortedHeap_at (vs := vs) (out := (arrOf st').map (·.2)) hL
  refine wpAny_pure ⟨_, rfl, hQ _ s1.heap.objs.size _ c ys (fun b o q => ?_) eg eo more hc y1 (y2.trans pk) y3⟩
  have q1 := keep b o q
  have lt := Heap.lt_size q1
  show (sortedHeap (s1.heap.push (seqObj "list" vs.toArray 0)) s1.heap.objs.size vs ((arrOf st').map (·.2))).get? b = some o
  rw [sortedHeap_old (Nat.ne_of_lt lt) (by rw [size_push']; exact Nat.lt_succ_of_lt lt)]
  exact Heap.get?_push_of_some _ q1
/-- what set.__init__ does with a list or a tuple of texts -/
theorem tx_init {l : Addr} {items : Array Value} {xs : List Str} {R : PySem.Fin → Shared → Prop} (hh : A.handled = none) (hl : s.heap.IsTuple l items ∨ s.heap.IsList l items) (hi : StrsAre items.toList xs) (hb : xs.length + 1 < scanBound)
    (h : ∀ (h' : Heap) (tk : Nat) (ks : List Str), TxSet P w h' s.heap.objs.size ks → (∀ z, z ∈ ks ↔ z ∈ xs) → (∀ b o, s.heap.get? b = some o → h'.get? b = some o) → R (.done (.ret .none)) { s with heap := h', toks := tk }) :
    wpAny (model P w) A (Builtin.«set.__init__» ⟨[.ref s.heap.objs.size, .ref l], []⟩) R E { s with heap := s.heap.push (nu w) } := by
  have hn : items.size = xs.length := by
    rw [← Array.length_toList]
    clear h hb hl
    generalize items.toList = l at hi
    induction hi with
    | nil => rfl
    | cons z u _ ih => rw [List.length_cons, List.length_cons, ih]
  have txt : ∀ (i : Nat) (v : Value), items[i]? = some v → ∃ z u, xs[i]? = some z ∧ v = .str z u := fun i v hv => by
    rw [← Array.getElem?_toList] at hv
    clear h hb hl hn
    generalize items.toList = l at hi hv
    induction hi generalizing i with
    | nil => simp at hv
    | cons z u _ ih =>
      cases i with
      | zero =>
        have e : Value.str z u = v := by simpa using hv
        exact ⟨z, u, rfl, e.symm⟩
      | succ i => exact ih i (by simpa using hv)
  have fin : ∀ (s' : Shared) (ks : List Str), s'.gens = s.gens → s'.drawn = s.drawn → s'.os = s.os → TxSet P w s'.heap s.heap.objs.size ks → (∀ z, z ∈ ks ↔ z ∈ xs) → (∀ b o, s.heap.get? b = some o → s'.heap.get? b = some o) → R (.done (.ret .none)) s' := fun s' ks e1 e2 e3 hS hm hk => by
    obtain ⟨h', g', d', t', o'⟩ := s'
    dsimp only at e1 e2 e3
    subst e1
    subst e2
    subst e3
    exact h h' t' ks hS hm hk
  rcases hl with hl | hl
  · obtain ⟨⟨oc, od, odt, osl⟩, hol, hcl, nl, hdl⟩ := hl
    dsimp only at hcl hdl
    subst hcl
    subst hdl
    have old := Heap.get?_push_of_some (nu w) hol
    have not1 := F.sub_tuple_set
    have not2 := F.sub_tuple_frozenset
    have not3 : (Value.type "tuple" == Value.type "dict") = false := by decide
    have seq : (s.heap.push (nu w)).IsTuple l items := ⟨_, old, rfl, nl, rfl⟩
    unfold Builtin.«set.__init__» noKeywords Builtin.Frozenset.updateFrom
    generalize hPI : pyIter = PI
    wp_walk
    subst hPI
    refine wpAny_pyIter_tuple seq (wpAny_bind (wpAny_runValue ?_))
    have lS : l < s.heap.objs.size := Heap.lt_size hol
    have h3 : A.in1.handled = none := by simp [hh]
    have sz : (s.heap.push (nu w)).objs.size = s.heap.objs.size + 1 := Heap.size_push ..
    refine tx_walk (a := s.heap.objs.size) ((Walks.tuple h3 _ l (by rw [sz]; exact Nat.ne_of_lt (Nat.lt_succ_of_lt lS)) items).toS) ?_ xs hn hb txt items.size 0 _ [] (Nat.zero_add _) ⟨⟨_, Heap.get?_push_size _ rfl, rfl, rfl⟩, seq.push _⟩ (TxSet.nu (Heap.get?_push_of_some _ (Heap.get?_push_size _ rfl))) (fun z => by simp) (Nat.le_refl _) fun s' ks mv hS hm => ?_
    · rw [sz]
      simp only [List.mem_cons, List.not_mem_nil, or_false, not_or]
      exact ⟨Nat.ne_of_lt (Nat.lt_succ_self _), Nat.ne_of_gt lS⟩
    · refine wpAny_pure (wpAny_pure ?_)
      exact fin s' ks mv.gens mv.drawn mv.os hS hm fun b o q => mv.heap b o (by
        have := Heap.lt_size q
        rw [sz]
        simp only [List.mem_cons, List.not_mem_nil, or_false, not_or]
        exact ⟨Nat.ne_of_lt this, Nat.ne_of_lt (Nat.lt_succ_of_lt this)⟩) (Heap.get?_push_of_some _ (Heap.get?_push_of_some _ q))
  · obtain ⟨⟨oc, od, odt, osl⟩, hol, hcl, nl, hdl⟩ := hl
    dsimp only at hcl hdl
    subst hcl
    subst hdl
    have old := Heap.get?_push_of_some (nu w) hol
    have not1 := F.sub_list_set
    have not2 := F.sub_list_frozenset
    have not3 : (Value.type "list" == Value.type "dict") = false := by decide
    have seq : (s.heap.push (nu w)).IsList l items := ⟨_, old, rfl, nl, rfl⟩
    unfold Builtin.«set.__init__» noKeywords Builtin.Frozenset.updateFrom
    generalize hPI : pyIter = PI
    wp_walk
    subst hPI
    refine wpAny_pyIter_list seq (wpAny_bind (wpAny_runValue ?_))
    have lS : l < s.heap.objs.size := Heap.lt_size hol
    have h3 : A.in1.handled = none := by simp [hh]
    have sz : (s.heap.push (nu w)).objs.size = s.heap.objs.size + 1 := Heap.size_push ..
    refine tx_walk (a := s.heap.objs.size) ((Walks.list h3 _ l (by rw [sz]; exact Nat.ne_of_lt (Nat.lt_succ_of_lt lS)) items).toS) ?_ xs hn hb txt items.size 0 _ [] (Nat.zero_add _) ⟨⟨_, Heap.get?_push_size _ rfl, rfl, rfl⟩, seq.push _⟩ (TxSet.nu (Heap.get?_push_of_some _ (Heap.get?_push_size _ rfl))) (fun z => by simp) (Nat.le_refl _) fun s' ks mv hS hm => ?_
    · rw [sz]
      simp only [List.mem_cons, List.not_mem_nil, or_false, not_or]
      exact ⟨Nat.ne_of_lt (Nat.lt_succ_self _), Nat.ne_of_gt lS⟩
    · refine wpAny_pure (wpAny_pure ?_)
      exact fin s' ks mv.gens mv.drawn mv.os hS hm fun b o q => mv.heap b o (by
        have := Heap.lt_size q
        rw [sz]
        simp only [List.mem_cons, List.not_mem_nil, or_false, not_or]
        exact ⟨Nat.ne_of_lt this, Nat.ne_of_lt (Nat.lt_succ_of_lt this)⟩) (Heap.get?_push_of_some _ (Heap.get?_push_of_some _ q))
/-- set(xs), xs a list or a tuple of texts -/
theorem tx_make {l : Addr} {items : Array Value} {xs : List Str} {Q : Value → Shared → Prop} (hh : A.handled = none) (hl : s.heap.IsTuple l items ∨ s.heap.IsList l items) (hi : StrsAre items.toList xs) (hb : xs.length + 1 < scanBound)
    (h : ∀ (h' : Heap) (tk : Nat) (ks : List Str), TxSet P w h' s.heap.objs.size ks → (∀ z, z ∈ ks ↔ z ∈ xs) → (∀ b o, s.heap.get? b = some o → h'.get? b = some o) → Q (.ref s.heap.objs.size) { s with heap := h', toks := tk }) :
    wpAny (model P w) A (call (.type "set") [.ref l]) Q E s := by
  obtain ⟨mc, mt, hmro⟩ := F.called_set.mro
  have a1 := F.called_set.made
  have a2 := F.called_set.sub
  have a3 := F.called_set.notType
  have a4 := F.called_set.canCreate
  have a5 := F.typeCall_set_1 (.ref l)
  refine wpAny_call (codeAny_of_tree ?_)
  change wpAny _ _ (callAny (.type "set") _) _ _ _
  refine wpAny_pure ⟨Code.quiet_builtin _ (by decide +kernel), ?_⟩
  refine codeAny_builtin F.entry_type_call ?_
  rw [Around.under_plain (weight_type_call_type "set" [.ref l] []) rfl]
  repeat (any_goals (first | assumption | wp_step))
  refine codeAny_mono (code_set_led1 (.ref l) (E := E) (Q₁ := fun v s1 => v = .ref s.heap.objs.size ∧ s1 = { s with heap := s.heap.push (nu w) }) ⟨rfl, rfl⟩) fun r s1 hr => ?_
  match r, hr with
  | .error e, hr => exact hr
  | .ok (.ret v), hr =>
    obtain ⟨rfl, rfl⟩ := hr
    have hT : Shared.TypeIs { s with heap := s.heap.push (nu w) } (.ref s.heap.objs.size) "set" := ⟨_, Heap.get?_push_size _ rfl, rfl⟩
    have b1 := F.called_set.init.lookup
    have b2 := F.called_set.init.bind (.ref s.heap.objs.size)
    repeat (any_goals (first | assumption | wp_step))
    refine codeAny_mono (codeAny_call_builtin (R := wants (fun v s2 => v = .none ∧ Q (.ref s.heap.objs.size) s2) E) F.called_set.init.plain F.entry_set_init (check_set_init_1 hT ?_)) fun r2 s2 hr2 => ?_
    · exact tx_init (by simp [hh]) hl hi hb fun h' tk ks hS hm hk => ⟨rfl, h h' tk ks hS hm hk⟩
    · match r2, hr2 with
      | .error e, hr2 => exact hr2
      | .ok (.ret v), hr2 =>
        obtain ⟨rfl, q⟩ := hr2
        repeat (any_goals (first | assumption | wp_step))
      | .ok .next, hr2 => exact hr2.elim
      | .ok .brk, hr2 => exact hr2.elim
      | .ok .cont, hr2 => exact hr2.elim
  | .ok .next, hr => exact hr.elim
  | .ok .brk, hr => exact hr.elim
  | .ok .cont, hr => exact hr.elim
end
end L2.Own

namespace L2.Own
open PySem PySem.Spec PyProof.Rows
/-- sorted(set(xs)), xs a list or a tuple of texts -/
def tSrtSet (K : PySem.W.Frag) (te : TE) : TE := fun σ H Q => te σ H fun x H1 => ∃ (l : Addr) (xs : List Str), x = .ref l ∧ (SqL K H1 l (xs.map V.str) ∨ SqT K H1 l (xs.map V.str)) ∧ xs.length ≤ 4000 ∧
  ∀ (ys : List Str) (p : Addr), ys.Nodup → sortedS ys = true → (∀ z, z ∈ ys ↔ z ∈ xs) → H1 p = none → Q (.ref p) (upd H1 p (.lst (ys.map V.str)))
theorem pe_srtSet {X : Cx} {a : Expr} {te : TE} {p p2 q pos : Pos} (hc : X.calm = true) (hg : Gl X "sorted") (hm : X.mg "sorted" = none) (hg2 : Gl X "set") (hm2 : X.mg "set" = none) (ha : PE X a te)
    (na : starEach [a] X.env = (false, eval a X.env) :: starEach [] X.env := by rfl) : PE X (.Call (.Name "sorted" p) [.Call (.Name "set" p2) [a] [] q] [] pos) (tSrtSet X.K te) := by
  refine ⟨fun pins s σ H Q I h => ?_⟩
  refine Call_ (ld_blt (u := .builtin "sorted") I hg hm (by decide +kernel) ?_)
  refine PyProof.Rows.callWith_builtin1 (PyProof.Rows.args_cons ?_ rfl) rfl rfl
  refine Call_ (ld_blt (u := .type "set") I hg2 hm2 (by decide +kernel) ?_)
  refine PyProof.Rows.callWith_type1 (PyProof.Rows.args_cons (thn (ha.run pins s σ H _ I h) fun v s1 ⟨x, H1, I1, r1, q1⟩ => PyProof.Rows.args_nil ?_) na) na rfl
  obtain ⟨l, xs, rfl, hq, hlen, hQ⟩ := q1
  cases r1
  have sb : xs.length + 1 < scanBound := Nat.lt_of_le_of_lt (Nat.succ_le_succ hlen) (by decide)
  have sq : ∃ its : List Value, Vals (xs.map V.str) its ∧ (s1.heap.IsTuple l its.toArray ∨ s1.heap.IsList l its.toArray) := by
    rcases hq with hq | hq
    · obtain ⟨its, r, pl, _⟩ := I1.list hq
      exact ⟨its, r, .inr pl.isList⟩
    · obtain ⟨its, r, pl, _⟩ := I1.tuple hq
      exact ⟨its, r, .inl pl⟩
  obtain ⟨its, r, pl⟩ := sq
  refine tx_make (I1.ok.hd hc) pl (by simpa using strsAre_of r) sb fun h' tk ks hS mem keep => ?_
  have I2 : Inv X pins σ H1 { s1 with heap := h', toks := tk } := I1.kept keep
  refine PyProof.Rows.args_nil ?_
  refine tx_sorted (s := { s1 with heap := h', toks := tk }) hS (I2.ok.hd hc) fun s' t out c ys k2 eg eo ht ho hy pm srt => ?_
  have hn : H1 t = none := I2.hok.fresh ht
  have nd : ys.Nodup := pm.nodup_iff.mpr hS.1
  have few : (ys.map V.str).length ≤ sizeLine := by
    have h1 := Sl.pigeon (l := ys) (zs := xs) nd fun z hz => (mem z).mp (pm.mem_iff.mp hz)
    rw [List.length_map]
    exact Sl.smallE (by omega)
  have J : Inv X pins σ (upd H1 t (.lst (ys.map V.str))) { s1 with heap := s'.heap, gens := s'.gens, drawn := s'.drawn, toks := s'.toks } :=
    Inv.call (s := { s1 with heap := h', toks := tk }) (ch := []) I2 (Un.laid k2 ht hn) (I2.hok.laid k2 ht ⟨few, out.toList, c, vals_of_strs hy, ho⟩) (by rw [eg]; exact I2.bare) (fun _ z => nomatch z)
  have es : s' = { s1 with heap := s'.heap, gens := s'.gens, drawn := s'.drawn, toks := s'.toks } := by
    obtain ⟨x1, x2, x3, x4, x5⟩ := s'
    obtain ⟨y1, y2, y3, y4, y5⟩ := s1
    cases eo
    rfl
  rw [es]
  exact ⟨.ref t, _, J, rfl, hQ ys t nd srt (fun z => by rw [pm.mem_iff, mem]) hn⟩
end L2.Own
namespace Sl
open PySem PySem.Spec PyProof.Rows L2
def leS (a b : Str) : Prop := a.cps.toList ≤ b.cps.toList
theorem leS_of {a b : Str} (h : ltCps b.cps.toList a.cps.toList = false) : leS a b := by
  rw [ltCps_eq, decide_eq_false_iff_not] at h
  exact List.not_lt.mp h
theorem rising_le : ∀ (l : List Str) (p : Str), risingS p l = true → (p :: l).Pairwise leS
  | [], p, _ => List.pairwise_singleton _ _
  | x :: l, p, h => by
    have h' : (!ltCps x.cps.toList p.cps.toList && risingS x l) = true := h
    rw [Bool.and_eq_true, Bool.not_eq_true'] at h'
    have ih := rising_le l x h'.2
    refine List.pairwise_cons.mpr ⟨fun y hy => ?_, ih⟩
    have e := leS_of h'.1
    rcases List.mem_cons.mp hy with q | q
    · rw [q]; exact e
    · exact List.le_trans e ((List.pairwise_cons.mp ih).1 y q)
theorem sorted_le : ∀ {l : List Str}, sortedS l = true → l.Pairwise leS
  | [], _ => List.Pairwise.nil
  | x :: l, h => rising_le l x h
theorem sorted_one {as bs : List Str} (h1 : sortedS as = true) (h2 : sortedS bs = true) (n1 : as.Nodup) (n2 : bs.Nodup) (hm : ∀ z, z ∈ as ↔ z ∈ bs) : as = bs := by
  have p := (List.perm_ext_iff_of_nodup n1 n2).mpr hm
  refine List.Perm.eq_of_pairwise (fun a b _ _ x y => ?_) (sorted_le h1) (sorted_le h2) p
  have e := List.le_antisymm x y
  cases a
  cases b
  exact congrArg Str.mk (Array.toList_inj.mp e)
end Sl

namespace L2.Own
open PySem PySem.Spec PyProof.Rows
/-- sorted(set(t)), t a short tuple of whole numbers -/
def tSrtSetI (K : PySem.W.Frag) (te : TE) : TE := fun σ H Q => te σ H fun x H1 => ∃ (l : Addr) (ns : List Int), x = .ref l ∧ SqT K H1 l (ns.map V.int) ∧ ns.length < 64 ∧
  ∀ (ys : List Int) (p : Addr), ys.Pairwise (· < ·) → (∀ z, z ∈ ys ↔ z ∈ ns) → H1 p = none → Q (.ref p) (upd H1 p (.lst (ys.map V.int)))
theorem pe_srtSetI {X : Cx} {a : Expr} {te : TE} {p p2 q pos : Pos} (hc : X.calm = true) (hg : Gl X "sorted") (hm : X.mg "sorted" = none) (hg2 : Gl X "set") (hm2 : X.mg "set" = none) (ha : PE X a te)
    (na : starEach [a] X.env = (false, eval a X.env) :: starEach [] X.env := by rfl) : PE X (.Call (.Name "sorted" p) [.Call (.Name "set" p2) [a] [] q] [] pos) (tSrtSetI X.K te) := by
  refine ⟨fun pins s σ H Q I h => ?_⟩
  refine Call_ (ld_blt (u := .builtin "sorted") I hg hm (by decide +kernel) ?_)
  refine PyProof.Rows.callWith_builtin1 (PyProof.Rows.args_cons ?_ rfl) rfl rfl
  refine Call_ (ld_blt (u := .type "set") I hg2 hm2 (by decide +kernel) ?_)
  refine PyProof.Rows.callWith_type1 (PyProof.Rows.args_cons (thn (ha.run pins s σ H _ I h) fun v s1 ⟨x, H1, I1, r1, q1⟩ => PyProof.Rows.args_nil ?_) na) na rfl
  obtain ⟨l, ns, rfl, hq, hlen, hQ⟩ := q1
  cases r1
  have sb : ns.length + 1 < scanBound := Nat.lt_of_le_of_lt (Nat.succ_le_succ (Nat.le_of_lt hlen)) (by decide)
  obtain ⟨its, r, pl, _⟩ := I1.tuple hq
  have hi : IntsAre its.toArray.toList ns := ints_of_vals r
  refine call_set_tupI ns (I1.ok.hd hc) (show s1.heap.IsTuple l its.toArray from pl) hi sb fun h' tk cnt R hcn keep => ?_
  have I2 : Inv X pins σ H1 { s1 with heap := h', toks := tk } := I1.kept keep
  refine PyProof.Rows.args_nil ?_
  refine sorted_set (s := { s1 with heap := h', toks := tk }) R (I2.ok.hd hc) (by omega) fun s' t out c ys k2 eg eo ht ho hy srt mem hl => ?_
  have hn : H1 t = none := I2.hok.fresh ht
  have few : (ys.map V.int).length ≤ sizeLine := by
    rw [List.length_map]
    exact Sl.smallE (by omega)
  have J : Inv X pins σ (upd H1 t (.lst (ys.map V.int))) { s1 with heap := s'.heap, gens := s'.gens, drawn := s'.drawn, toks := s'.toks } :=
    Inv.call (s := { s1 with heap := h', toks := tk }) (ch := []) I2 (Un.laid k2 ht hn) (I2.hok.laid k2 ht ⟨few, out.toList, c, vals_of_ints hy, ho⟩) (by rw [eg]; exact I2.bare) (fun _ z => nomatch z)
  have es : s' = { s1 with heap := s'.heap, gens := s'.gens, drawn := s'.drawn, toks := s'.toks } := by
    obtain ⟨x1, x2, x3, x4, x5⟩ := s'
    obtain ⟨y1, y2, y3, y4, y5⟩ := s1
    cases eo
    rfl
  rw [es]
  exact ⟨.ref t, _, J, rfl, hQ ys t srt (fun z => by rw [mem, decide_eq_true_iff]) hn⟩
section
variable {X : Cx} {K : PySem.W.Frag}
theorem op_eqDK (h : X.K = K) (hu : X.A.units + 64 < cLine) : OpR X (compareOp .Eq) (rEqD K) := h ▸ op_eqD hu
theorem op_neDK (h : X.K = K) (hu : X.A.units + 64 < cLine) : OpR X (compareOp .NotEq) (rNeD K) := h ▸ op_neD hu
end
end L2.Own
namespace Sl
open PySem PySem.Spec PyProof.Rows L2
/-! ## data of whole numbers -/
theorem dpZ (K : PySem.W.Frag) (H : Hp) : ∀ ns : List Int, DpAll K H (ns.map V.int) (ns.map PyData.int)
  | [] => .nil
  | k :: ks => .cons (.int _) (dpZ K H ks)
theorem layZ : ∀ ns : List Int, PyData.canLayAll0 (ns.map PyData.int) = true
  | [] => rfl
  | k :: ks => by
    have ih := layZ ks
    simp [PyData.canLayAll0, PyData.canLay0, ih]
theorem deepZ : ∀ ns : List Int, PyData.depthAll (ns.map PyData.int) ≤ 1
  | [] => by simp [PyData.depthAll]
  | z :: zs => by
    have ih := deepZ zs
    simp only [List.map_cons, PyData.depthAll, PyData.depth]
    omega
theorem shapedZ (ns : List Int) : SeqAt.shaped (.list (ns.map PyData.int)) = true := by
  unfold SeqAt.shaped
  rw [Bool.and_eq_true]
  refine ⟨layZ ns, decide_eq_true ?_⟩
  have := deepZ ns
  simp only [PyData.depth]
  omega
theorem shapedZT (ns : List Int) : SeqAt.shaped (.tuple (ns.map PyData.int)) = true := by
  unfold SeqAt.shaped
  rw [Bool.and_eq_true]
  refine ⟨layZ ns, decide_eq_true ?_⟩
  have := deepZ ns
  simp only [PyData.depth]
  omega
theorem eqvAllZ : ∀ as bs : List Int, PyData.eqvAll (as.map PyData.int) (bs.map PyData.int) = decide (as = bs)
  | [], [] => rfl
  | [], _ :: _ => rfl
  | _ :: _, [] => rfl
  | a :: as, b :: bs => by
    rw [List.map_cons, List.map_cons, PyData.eqvAll, eqvAllZ as bs]
    have e : PyData.eqv (.int a) (.int b) = decide (a = b) := by
      simp only [PyData.eqv]
      rw [Bool.eq_iff_iff, beq_iff_eq, decide_eq_true_iff]
    rw [e, Bool.eq_iff_iff, Bool.and_eq_true, decide_eq_true_iff, decide_eq_true_iff, decide_eq_true_iff, List.cons.injEq]
theorem eqvZT (as bs : List Int) : PyData.eqv (.tuple (as.map PyData.int)) (.tuple (bs.map PyData.int)) = decide (as = bs) := by
  rw [PyData.eqv]
  exact eqvAllZ as bs
theorem eqvZ (as bs : List Int) : PyData.eqv (.list (as.map PyData.int)) (.list (bs.map PyData.int)) = decide (as = bs) := by
  rw [PyData.eqv]
  exact eqvAllZ as bs
theorem inZ (y : Int) (zs : List Int) : inV (.int y) (zs.map V.int) = zs.contains y := by
  unfold inV
  rw [List.any_map, List.contains_eq_any_beq]
  congr 1
  funext x
  show (x == y) = (y == x)
  rw [Bool.eq_iff_iff, beq_iff_eq, beq_iff_eq]
  exact eq_comm
theorem flatZ (zs : List Int) : (zs.map V.int).all flatV = true := by
  rw [List.all_map, List.all_eq_true]
  intro z _
  rfl
/-- rising lists of the same numbers are the same -/
theorem rising_one {as bs : List Int} (h1 : as.Pairwise (· < ·)) (h2 : bs.Pairwise (· < ·)) (hm : ∀ z, z ∈ as ↔ z ∈ bs) : as = bs := by
  have n1 : as.Nodup := h1.imp fun h => by omega
  have n2 : bs.Nodup := h2.imp fun h => by omega
  have p := (List.perm_ext_iff_of_nodup n1 n2).mpr hm
  exact List.Perm.eq_of_pairwise (fun a b _ _ x y => by omega) h1 h2 p
end Sl


namespace S11
open PySem PySem.Spec PyProof.Rows L2 L2.Own He Sl
def top (i : Nat) : Stmt := PySem.Challenge.pw_stripelay_k27_whole_seen_in_part.main.body.getD i (.Pass ⟨0, 0, 0, 0⟩)
abbrev s__wall : Stmt := top 0
abbrev s_is_whole : Stmt := top 13
abbrev s_is_spot : Stmt := top 14
abbrev s_check_spot : Stmt := top 15
abbrev s_check_number : Stmt := top 16
abbrev s_are_letters : Stmt := top 20
abbrev s_is_shade : Stmt := top 21
abbrev s_is_stripe : Stmt := top 22
abbrev s_first_wrong : Stmt := top 23
abbrev s_are_threads : Stmt := top 24
abbrev s_threads_of : Stmt := top 25
abbrev s_stripes_of : Stmt := top 26
abbrev s_stripe_words : Stmt := top 27
abbrev s_is_manner : Stmt := top 30
abbrev s_laid_out : Stmt := top 31
abbrev s_begun_at : Stmt := top 32
abbrev s_told_from : Stmt := top 33
abbrev s_least_round : Stmt := top 34
abbrev s_short_round : Stmt := top 35
abbrev s_least_beginning : Stmt := top 36
abbrev s_row_of_threads : Stmt := top 38
abbrev s_shows_round : Stmt := top 40
abbrev s_can_be : Stmt := top 41
abbrev s_longest_agreement : Stmt := top 42
abbrev s_longest_mistaken : Stmt := top 43
abbrev s_enough : Stmt := top 44
abbrev s_fits : Stmt := top 46
abbrev s_cut : Stmt := top 49
abbrev s__law_pool : Stmt := top 51
abbrev s__law_take : Stmt := top 52
abbrev s__law_far : Stmt := top 53
abbrev s__law_some_shades : Stmt := top 54
abbrev s__law_parts : Stmt := top 55
abbrev s__law_word : Stmt := top 56
abbrev s__law_round : Stmt := top 57
abbrev s__law_drawn : Stmt := top 58
abbrev s__law_among : Stmt := top 59
abbrev s__law_shown : Stmt := top 60
abbrev s__law_piece_right : Stmt := top 61
abbrev s__law_enough_right : Stmt := top 62
abbrev s_law : Stmt := top 63
abbrev s_Row___init__ : Stmt := inClass (top 37) 0
abbrev s_Row_at : Stmt := inClass (top 37) 1
abbrev s_Row_threads : Stmt := inClass (top 37) 2
abbrev s_Row_shades : Stmt := inClass (top 37) 3
abbrev s_Row_moved : Stmt := inClass (top 37) 4
abbrev s_Row_turned : Stmt := inClass (top 37) 5
abbrev s_Row_alike : Stmt := inClass (top 37) 6
abbrev s_Row___len__ : Stmt := inClass (top 37) 7
abbrev s_Row___eq__ : Stmt := inClass (top 37) 8
abbrev s_Row___str__ : Stmt := inClass (top 37) 9
abbrev s_Row___repr__ : Stmt := inClass (top 37) 10
abbrev s_Piece___init__ : Stmt := inClass (top 48) 0
abbrev s_Piece_threads : Stmt := inClass (top 48) 1
abbrev s_Piece_joined : Stmt := inClass (top 48) 2
abbrev s_Piece___len__ : Stmt := inClass (top 48) 3
abbrev s_Piece___eq__ : Stmt := inClass (top 48) 4
abbrev s_Piece___str__ : Stmt := inClass (top 48) 5
abbrev s_Piece___repr__ : Stmt := inClass (top 48) 6
abbrev FnP (K : PySem.W.Frag) (x q : Str) (st : Stmt) (dv : List V) (f : Addr) (fd : FuncData) : Prop := FunD K x q (defArgs st) (defBody st) (defScope st) dv [] f fd
noncomputable def fdAt (K : PySem.W.Frag) (a : Addr) : FuncData := match K.lookup a with
  | some ⟨_, _, .func fd, _⟩ => fd
  | _ => PySem.W.fnOf "law" "law" (defArgs s_law) (defBody s_law) (defScope s_law) .none .none .none .none none .none .none
noncomputable abbrev fdOf (K : PySem.W.Frag) (x : Str) : FuncData := fdAt K (ga K x)
theorem fdAt_eq {K : PySem.W.Frag} {x q : Str} {st : Stmt} {dv : List V} {a : Addr} {fd : FuncData} (F : FnP K x q st dv a fd) : FnP K x q st dv a (fdAt K a) := by
  have e : fdAt K a = fd := by
    obtain ⟨oc, od, dV, kV, doc, pm, an, cdv, ct, osl, rfl, lk, _⟩ := F.ex
    unfold fdAt
    rw [lk]
  rw [e]
  exact F
structure Txt (K : PySem.W.Frag) (mg : Str → Option Value) : Prop where
  f_len : mg "len" = none
  f_isinstance : mg "isinstance" = none
  f_all : mg "all" = none
  f_any : mg "any" = none
  f_tuple : mg "tuple" = none
  f_range : mg "range" = none
  f_enumerate : mg "enumerate" = none
  f_sum : mg "sum" = none
  f_abs : mg "abs" = none
  f_divmod : mg "divmod" = none
  f_max : mg "max" = none
  f_min : mg "min" = none
  f_list : mg "list" = none
  f_str : mg "str" = none
  f_int : mg "int" = none
  f_bool : mg "bool" = none
  f_repr : mg "repr" = none
  f_sorted : mg "sorted" = none
  f_set : mg "set" = none
  f_zip : mg "zip" = none
  f_dict : mg "dict" = none
  f_reversed : mg "reversed" = none
  f_ValueError : mg "ValueError" = none
  f_IndexError : mg "IndexError" = none
  f_KeyError : mg "KeyError" = none
  f_ZeroDivisionError : mg "ZeroDivisionError" = none
  f_LookupError : mg "LookupError" = none
  m_BIG : ∃ t, mg "BIG" = some (.int (1000000000000000000000000000000) t)
  m_MOST_THREADS : ∃ t, mg "MOST_THREADS" = some (.int (240) t)
  m_MOST_LETTERS : ∃ t, mg "MOST_LETTERS" = some (.int (3) t)
  c_StripeError : mg "StripeError" = some (.ref (ga K "StripeError"))
  c_NoStripes : mg "NoStripes" = some (.ref (ga K "NoStripes"))
  c_NoThreads : mg "NoThreads" = some (.ref (ga K "NoThreads"))
  c_NoManner : mg "NoManner" = some (.ref (ga K "NoManner"))
  c_TooLong : mg "TooLong" = some (.ref (ga K "TooLong"))
  c_NoNumber : mg "NoNumber" = some (.ref (ga K "NoNumber"))
  c_SpotError : mg "SpotError" = some (.ref (ga K "SpotError"))
  c_NoSpot : mg "NoSpot" = some (.ref (ga K "NoSpot"))
  c_NoCut : mg "NoCut" = some (.ref (ga K "NoCut"))
  c_Row : mg "Row" = some (.ref (ga K "Row"))
  c_Piece : mg "Piece" = some (.ref (ga K "Piece"))
  c_MANNERS : mg "MANNERS" = some (.ref (ga K "MANNERS"))
  t_MANNERS : ∀ H, SqT K H (ga K "MANNERS") [.str "run", .str "pivot", .str "fold", .str "left", .str "right"]
  g__wall : mg "_wall" = some (.ref (ga K "_wall"))
  F__wall : FnP K "_wall" "_wall" s__wall [] (ga K "_wall") (fdOf K "_wall")
  g_is_whole : mg "is_whole" = some (.ref (ga K "is_whole"))
  F_is_whole : FnP K "is_whole" "is_whole" s_is_whole [] (ga K "is_whole") (fdOf K "is_whole")
  g_is_spot : mg "is_spot" = some (.ref (ga K "is_spot"))
  F_is_spot : FnP K "is_spot" "is_spot" s_is_spot [] (ga K "is_spot") (fdOf K "is_spot")
  g_check_spot : mg "check_spot" = some (.ref (ga K "check_spot"))
  F_check_spot : FnP K "check_spot" "check_spot" s_check_spot [] (ga K "check_spot") (fdOf K "check_spot")
  g_check_number : mg "check_number" = some (.ref (ga K "check_number"))
  F_check_number : FnP K "check_number" "check_number" s_check_number [] (ga K "check_number") (fdOf K "check_number")
  g_are_letters : mg "are_letters" = some (.ref (ga K "are_letters"))
  F_are_letters : FnP K "are_letters" "are_letters" s_are_letters [] (ga K "are_letters") (fdOf K "are_letters")
  g_is_shade : mg "is_shade" = some (.ref (ga K "is_shade"))
  F_is_shade : FnP K "is_shade" "is_shade" s_is_shade [] (ga K "is_shade") (fdOf K "is_shade")
  g_is_stripe : mg "is_stripe" = some (.ref (ga K "is_stripe"))
  F_is_stripe : FnP K "is_stripe" "is_stripe" s_is_stripe [] (ga K "is_stripe") (fdOf K "is_stripe")
  g_first_wrong : mg "first_wrong" = some (.ref (ga K "first_wrong"))
  F_first_wrong : FnP K "first_wrong" "first_wrong" s_first_wrong [] (ga K "first_wrong") (fdOf K "first_wrong")
  g_are_threads : mg "are_threads" = some (.ref (ga K "are_threads"))
  F_are_threads : FnP K "are_threads" "are_threads" s_are_threads [] (ga K "are_threads") (fdOf K "are_threads")
  g_threads_of : mg "threads_of" = some (.ref (ga K "threads_of"))
  F_threads_of : FnP K "threads_of" "threads_of" s_threads_of [] (ga K "threads_of") (fdOf K "threads_of")
  g_stripes_of : mg "stripes_of" = some (.ref (ga K "stripes_of"))
  F_stripes_of : FnP K "stripes_of" "stripes_of" s_stripes_of [] (ga K "stripes_of") (fdOf K "stripes_of")
  g_stripe_words : mg "stripe_words" = some (.ref (ga K "stripe_words"))
  F_stripe_words : FnP K "stripe_words" "stripe_words" s_stripe_words [] (ga K "stripe_words") (fdOf K "stripe_words")
  g_is_manner : mg "is_manner" = some (.ref (ga K "is_manner"))
  F_is_manner : FnP K "is_manner" "is_manner" s_is_manner [] (ga K "is_manner") (fdOf K "is_manner")
  g_laid_out : mg "laid_out" = some (.ref (ga K "laid_out"))
  F_laid_out : FnP K "laid_out" "laid_out" s_laid_out [] (ga K "laid_out") (fdOf K "laid_out")
  g_begun_at : mg "begun_at" = some (.ref (ga K "begun_at"))
  F_begun_at : FnP K "begun_at" "begun_at" s_begun_at [] (ga K "begun_at") (fdOf K "begun_at")
  g_told_from : mg "told_from" = some (.ref (ga K "told_from"))
  F_told_from : FnP K "told_from" "told_from" s_told_from [] (ga K "told_from") (fdOf K "told_from")
  g_least_round : mg "least_round" = some (.ref (ga K "least_round"))
  F_least_round : FnP K "least_round" "least_round" s_least_round [] (ga K "least_round") (fdOf K "least_round")
  g_short_round : mg "short_round" = some (.ref (ga K "short_round"))
  F_short_round : FnP K "short_round" "short_round" s_short_round [] (ga K "short_round") (fdOf K "short_round")
  g_least_beginning : mg "least_beginning" = some (.ref (ga K "least_beginning"))
  F_least_beginning : FnP K "least_beginning" "least_beginning" s_least_beginning [] (ga K "least_beginning") (fdOf K "least_beginning")
  g_row_of_threads : mg "row_of_threads" = some (.ref (ga K "row_of_threads"))
  F_row_of_threads : FnP K "row_of_threads" "row_of_threads" s_row_of_threads [] (ga K "row_of_threads") (fdOf K "row_of_threads")
  g_shows_round : mg "shows_round" = some (.ref (ga K "shows_round"))
  F_shows_round : FnP K "shows_round" "shows_round" s_shows_round [] (ga K "shows_round") (fdOf K "shows_round")
  g_can_be : mg "can_be" = some (.ref (ga K "can_be"))
  F_can_be : FnP K "can_be" "can_be" s_can_be [.non] (ga K "can_be") (fdOf K "can_be")
  g_longest_agreement : mg "longest_agreement" = some (.ref (ga K "longest_agreement"))
  F_longest_agreement : FnP K "longest_agreement" "longest_agreement" s_longest_agreement [] (ga K "longest_agreement") (fdOf K "longest_agreement")
  g_longest_mistaken : mg "longest_mistaken" = some (.ref (ga K "longest_mistaken"))
  F_longest_mistaken : FnP K "longest_mistaken" "longest_mistaken" s_longest_mistaken [] (ga K "longest_mistaken") (fdOf K "longest_mistaken")
  g_enough : mg "enough" = some (.ref (ga K "enough"))
  F_enough : FnP K "enough" "enough" s_enough [] (ga K "enough") (fdOf K "enough")
  g_fits : mg "fits" = some (.ref (ga K "fits"))
  F_fits : FnP K "fits" "fits" s_fits [] (ga K "fits") (fdOf K "fits")
  g_cut : mg "cut" = some (.ref (ga K "cut"))
  F_cut : FnP K "cut" "cut" s_cut [] (ga K "cut") (fdOf K "cut")
  g__law_pool : mg "_law_pool" = some (.ref (ga K "_law_pool"))
  F__law_pool : FnP K "_law_pool" "_law_pool" s__law_pool [] (ga K "_law_pool") (fdOf K "_law_pool")
  g__law_take : mg "_law_take" = some (.ref (ga K "_law_take"))
  F__law_take : FnP K "_law_take" "_law_take" s__law_take [] (ga K "_law_take") (fdOf K "_law_take")
  g__law_far : mg "_law_far" = some (.ref (ga K "_law_far"))
  F__law_far : FnP K "_law_far" "_law_far" s__law_far [] (ga K "_law_far") (fdOf K "_law_far")
  g__law_some_shades : mg "_law_some_shades" = some (.ref (ga K "_law_some_shades"))
  F__law_some_shades : FnP K "_law_some_shades" "_law_some_shades" s__law_some_shades [] (ga K "_law_some_shades") (fdOf K "_law_some_shades")
  g__law_parts : mg "_law_parts" = some (.ref (ga K "_law_parts"))
  F__law_parts : FnP K "_law_parts" "_law_parts" s__law_parts [] (ga K "_law_parts") (fdOf K "_law_parts")
  g__law_word : mg "_law_word" = some (.ref (ga K "_law_word"))
  F__law_word : FnP K "_law_word" "_law_word" s__law_word [] (ga K "_law_word") (fdOf K "_law_word")
  g__law_round : mg "_law_round" = some (.ref (ga K "_law_round"))
  F__law_round : FnP K "_law_round" "_law_round" s__law_round [] (ga K "_law_round") (fdOf K "_law_round")
  g__law_drawn : mg "_law_drawn" = some (.ref (ga K "_law_drawn"))
  F__law_drawn : FnP K "_law_drawn" "_law_drawn" s__law_drawn [] (ga K "_law_drawn") (fdOf K "_law_drawn")
  g__law_among : mg "_law_among" = some (.ref (ga K "_law_among"))
  F__law_among : FnP K "_law_among" "_law_among" s__law_among [] (ga K "_law_among") (fdOf K "_law_among")
  g__law_shown : mg "_law_shown" = some (.ref (ga K "_law_shown"))
  F__law_shown : FnP K "_law_shown" "_law_shown" s__law_shown [] (ga K "_law_shown") (fdOf K "_law_shown")
  g__law_piece_right : mg "_law_piece_right" = some (.ref (ga K "_law_piece_right"))
  F__law_piece_right : FnP K "_law_piece_right" "_law_piece_right" s__law_piece_right [] (ga K "_law_piece_right") (fdOf K "_law_piece_right")
  g__law_enough_right : mg "_law_enough_right" = some (.ref (ga K "_law_enough_right"))
  F__law_enough_right : FnP K "_law_enough_right" "_law_enough_right" s__law_enough_right [] (ga K "_law_enough_right") (fdOf K "_law_enough_right")
  g_law : mg "law" = some (.ref (ga K "law"))
  F_law : FnP K "law" "law" s_law [] (ga K "law") (fdOf K "law")
  cl_Row : Cls K (ga K "Row")
  mk_Row : Mk K (ga K "Row") (ma K (ga K "Row") "__init__")
  ca_Row : PySem.W.findIn K (.ref (ga K "Row")) "__class__" = some (some (.builtin "object.__class__"))
  cg_Row : PySem.W.specialIn K (.builtin "object.__class__") "__get__" = some (some (.builtin "getset_descriptor.__get__"))
  ct_Row : PySem.W.takesIn K (.builtin "object.__class__") = some true
  cm_Row : PySem.W.mroIn K (ga K "Row") (.type "object") = some true
  ne_Row : PySem.W.findIn K (.ref (ga K "Row")) "__ne__" = some (some (.builtin "object.__ne__"))
  nf_Row_one_round : NoAttr K (ga K "Row") "one_round"
  cl_Piece : Cls K (ga K "Piece")
  mk_Piece : Mk K (ga K "Piece") (ma K (ga K "Piece") "__init__")
  ca_Piece : PySem.W.findIn K (.ref (ga K "Piece")) "__class__" = some (some (.builtin "object.__class__"))
  cg_Piece : PySem.W.specialIn K (.builtin "object.__class__") "__get__" = some (some (.builtin "getset_descriptor.__get__"))
  ct_Piece : PySem.W.takesIn K (.builtin "object.__class__") = some true
  cm_Piece : PySem.W.mroIn K (ga K "Piece") (.type "object") = some true
  ne_Piece : PySem.W.findIn K (.ref (ga K "Piece")) "__ne__" = some (some (.builtin "object.__ne__"))
  nf_Piece_held : NoAttr K (ga K "Piece") "held"
  M_Row___init__ : Meth K (ga K "Row") "__init__" (ma K (ga K "Row") "__init__")
  F_Row___init__ : FnP K "__init__" "Row.__init__" s_Row___init__ [.str "run", .int (0)] (ma K (ga K "Row") "__init__") (fdAt K (ma K (ga K "Row") "__init__"))
  M_Row_at : Meth K (ga K "Row") "at" (ma K (ga K "Row") "at")
  F_Row_at : FnP K "at" "Row.at" s_Row_at [] (ma K (ga K "Row") "at") (fdAt K (ma K (ga K "Row") "at"))
  M_Row_threads : Meth K (ga K "Row") "threads" (ma K (ga K "Row") "threads")
  F_Row_threads : FnP K "threads" "Row.threads" s_Row_threads [] (ma K (ga K "Row") "threads") (fdAt K (ma K (ga K "Row") "threads"))
  M_Row_shades : Meth K (ga K "Row") "shades" (ma K (ga K "Row") "shades")
  F_Row_shades : FnP K "shades" "Row.shades" s_Row_shades [] (ma K (ga K "Row") "shades") (fdAt K (ma K (ga K "Row") "shades"))
  M_Row_moved : Meth K (ga K "Row") "moved" (ma K (ga K "Row") "moved")
  F_Row_moved : FnP K "moved" "Row.moved" s_Row_moved [] (ma K (ga K "Row") "moved") (fdAt K (ma K (ga K "Row") "moved"))
  M_Row_turned : Meth K (ga K "Row") "turned" (ma K (ga K "Row") "turned")
  F_Row_turned : FnP K "turned" "Row.turned" s_Row_turned [] (ma K (ga K "Row") "turned") (fdAt K (ma K (ga K "Row") "turned"))
  M_Row_alike : Meth K (ga K "Row") "alike" (ma K (ga K "Row") "alike")
  F_Row_alike : FnP K "alike" "Row.alike" s_Row_alike [] (ma K (ga K "Row") "alike") (fdAt K (ma K (ga K "Row") "alike"))
  M_Row___len__ : Meth K (ga K "Row") "__len__" (ma K (ga K "Row") "__len__")
  F_Row___len__ : FnP K "__len__" "Row.__len__" s_Row___len__ [] (ma K (ga K "Row") "__len__") (fdAt K (ma K (ga K "Row") "__len__"))
  M_Row___eq__ : Meth K (ga K "Row") "__eq__" (ma K (ga K "Row") "__eq__")
  F_Row___eq__ : FnP K "__eq__" "Row.__eq__" s_Row___eq__ [] (ma K (ga K "Row") "__eq__") (fdAt K (ma K (ga K "Row") "__eq__"))
  M_Row___str__ : Meth K (ga K "Row") "__str__" (ma K (ga K "Row") "__str__")
  F_Row___str__ : FnP K "__str__" "Row.__str__" s_Row___str__ [] (ma K (ga K "Row") "__str__") (fdAt K (ma K (ga K "Row") "__str__"))
  M_Row___repr__ : Meth K (ga K "Row") "__repr__" (ma K (ga K "Row") "__repr__")
  F_Row___repr__ : FnP K "__repr__" "Row.__repr__" s_Row___repr__ [] (ma K (ga K "Row") "__repr__") (fdAt K (ma K (ga K "Row") "__repr__"))
  M_Piece___init__ : Meth K (ga K "Piece") "__init__" (ma K (ga K "Piece") "__init__")
  F_Piece___init__ : FnP K "__init__" "Piece.__init__" s_Piece___init__ [] (ma K (ga K "Piece") "__init__") (fdAt K (ma K (ga K "Piece") "__init__"))
  M_Piece_threads : Meth K (ga K "Piece") "threads" (ma K (ga K "Piece") "threads")
  F_Piece_threads : FnP K "threads" "Piece.threads" s_Piece_threads [] (ma K (ga K "Piece") "threads") (fdAt K (ma K (ga K "Piece") "threads"))
  M_Piece_joined : Meth K (ga K "Piece") "joined" (ma K (ga K "Piece") "joined")
  F_Piece_joined : FnP K "joined" "Piece.joined" s_Piece_joined [] (ma K (ga K "Piece") "joined") (fdAt K (ma K (ga K "Piece") "joined"))
  M_Piece___len__ : Meth K (ga K "Piece") "__len__" (ma K (ga K "Piece") "__len__")
  F_Piece___len__ : FnP K "__len__" "Piece.__len__" s_Piece___len__ [] (ma K (ga K "Piece") "__len__") (fdAt K (ma K (ga K "Piece") "__len__"))
  M_Piece___eq__ : Meth K (ga K "Piece") "__eq__" (ma K (ga K "Piece") "__eq__")
  F_Piece___eq__ : FnP K "__eq__" "Piece.__eq__" s_Piece___eq__ [] (ma K (ga K "Piece") "__eq__") (fdAt K (ma K (ga K "Piece") "__eq__"))
  M_Piece___str__ : Meth K (ga K "Piece") "__str__" (ma K (ga K "Piece") "__str__")
  F_Piece___str__ : FnP K "__str__" "Piece.__str__" s_Piece___str__ [] (ma K (ga K "Piece") "__str__") (fdAt K (ma K (ga K "Piece") "__str__"))
  M_Piece___repr__ : Meth K (ga K "Piece") "__repr__" (ma K (ga K "Piece") "__repr__")
  F_Piece___repr__ : FnP K "__repr__" "Piece.__repr__" s_Piece___repr__ [] (ma K (ga K "Piece") "__repr__") (fdAt K (ma K (ga K "Piece") "__repr__"))
  xc_NoThreads : PySem.W.excIn K (ga K "NoThreads") veBase "ValueError.__new__" = true ∧ PySem.W.keepIn K (.ref (ga K "NoThreads")) = true ∧ PySem.W.subIn K (.ref (ga K "NoThreads")) (.type "BaseException") = some true ∧ PySem.W.typeIn K (.ref (ga K "NoThreads")) = some (.type "type")
  xm_NoThreads : PySem.W.exmOne K (.ref (ga K "NoThreads")) (.ref (ga K "StripeError")) = some true
  xe_NoThreads : ExcC K (ga K "NoThreads")
  xi_NoThreads_StripeError : PySem.W.kitOne K (.ref (ga K "NoThreads")) (.ref (ga K "StripeError")) = some true
  xi_NoThreads_NoStripes : PySem.W.kitOne K (.ref (ga K "NoThreads")) (.ref (ga K "NoStripes")) = some false
  xi_NoThreads_NoThreads : PySem.W.kitOne K (.ref (ga K "NoThreads")) (.ref (ga K "NoThreads")) = some true
  xi_NoThreads_NoManner : PySem.W.kitOne K (.ref (ga K "NoThreads")) (.ref (ga K "NoManner")) = some false
  xi_NoThreads_TooLong : PySem.W.kitOne K (.ref (ga K "NoThreads")) (.ref (ga K "TooLong")) = some false
  xi_NoThreads_NoNumber : PySem.W.kitOne K (.ref (ga K "NoThreads")) (.ref (ga K "NoNumber")) = some false
  xi_NoThreads_SpotError : PySem.W.kitOne K (.ref (ga K "NoThreads")) (.ref (ga K "SpotError")) = some false
  xi_NoThreads_NoSpot : PySem.W.kitOne K (.ref (ga K "NoThreads")) (.ref (ga K "NoSpot")) = some false
  xi_NoThreads_NoCut : PySem.W.kitOne K (.ref (ga K "NoThreads")) (.ref (ga K "NoCut")) = some false
  xi_NoThreads_Row : PySem.W.kitOne K (.ref (ga K "NoThreads")) (.ref (ga K "Row")) = some false
  xi_NoThreads_Piece : PySem.W.kitOne K (.ref (ga K "NoThreads")) (.ref (ga K "Piece")) = some false
  xi_NoThreads_ValueError : PySem.W.kitOne K (.ref (ga K "NoThreads")) (.type "ValueError") = some true
  xi_NoThreads_IndexError : PySem.W.kitOne K (.ref (ga K "NoThreads")) (.type "IndexError") = some false
  xi_NoThreads_KeyError : PySem.W.kitOne K (.ref (ga K "NoThreads")) (.type "KeyError") = some false
  xi_NoThreads_ZeroDivisionError : PySem.W.kitOne K (.ref (ga K "NoThreads")) (.type "ZeroDivisionError") = some false
  xi_NoThreads_LookupError : PySem.W.kitOne K (.ref (ga K "NoThreads")) (.type "LookupError") = some false
section
variable {K : PySem.W.Frag} {mg : Str → Option Value}
theorem Txt.b__wall (T : Txt K mg) : Binds K (fdOf K "_wall") ["k"] [] := T.F__wall.bindsN fun _ _ _ _ _ _ us hl => match us, hl with | [_], _ => rfl
theorem Txt.b_is_whole (T : Txt K mg) : Binds K (fdOf K "is_whole") ["thing"] [] := T.F_is_whole.bindsN fun _ _ _ _ _ _ us hl => match us, hl with | [_], _ => rfl
theorem Txt.b_is_spot (T : Txt K mg) : Binds K (fdOf K "is_spot") ["thing"] [] := T.F_is_spot.bindsN fun _ _ _ _ _ _ us hl => match us, hl with | [_], _ => rfl
theorem Txt.b_check_spot (T : Txt K mg) : Binds K (fdOf K "check_spot") ["thing"] [] := T.F_check_spot.bindsN fun _ _ _ _ _ _ us hl => match us, hl with | [_], _ => rfl
theorem Txt.b_check_number (T : Txt K mg) : Binds K (fdOf K "check_number") ["thing", "least", "most"] [] := T.F_check_number.bindsN fun _ _ _ _ _ _ us hl => match us, hl with | [_, _, _], _ => rfl
theorem Txt.b_are_letters (T : Txt K mg) : Binds K (fdOf K "are_letters") ["thing", "most"] [] := T.F_are_letters.bindsN fun _ _ _ _ _ _ us hl => match us, hl with | [_, _], _ => rfl
theorem Txt.b_is_shade (T : Txt K mg) : Binds K (fdOf K "is_shade") ["thing"] [] := T.F_is_shade.bindsN fun _ _ _ _ _ _ us hl => match us, hl with | [_], _ => rfl
theorem Txt.b_is_stripe (T : Txt K mg) : Binds K (fdOf K "is_stripe") ["thing"] [] := T.F_is_stripe.bindsN fun _ _ _ _ _ _ us hl => match us, hl with | [_], _ => rfl
theorem Txt.b_first_wrong (T : Txt K mg) : Binds K (fdOf K "first_wrong") ["stripes"] [] := T.F_first_wrong.bindsN fun _ _ _ _ _ _ us hl => match us, hl with | [_], _ => rfl
theorem Txt.b_are_threads (T : Txt K mg) : Binds K (fdOf K "are_threads") ["thing"] [] := T.F_are_threads.bindsN fun _ _ _ _ _ _ us hl => match us, hl with | [_], _ => rfl
theorem Txt.b_threads_of (T : Txt K mg) : Binds K (fdOf K "threads_of") ["stripes"] [] := T.F_threads_of.bindsN fun _ _ _ _ _ _ us hl => match us, hl with | [_], _ => rfl
theorem Txt.b_stripes_of (T : Txt K mg) : Binds K (fdOf K "stripes_of") ["threads"] [] := T.F_stripes_of.bindsN fun _ _ _ _ _ _ us hl => match us, hl with | [_], _ => rfl
theorem Txt.b_stripe_words (T : Txt K mg) : Binds K (fdOf K "stripe_words") ["threads"] [] := T.F_stripe_words.bindsN fun _ _ _ _ _ _ us hl => match us, hl with | [_], _ => rfl
theorem Txt.b_is_manner (T : Txt K mg) : Binds K (fdOf K "is_manner") ["thing"] [] := T.F_is_manner.bindsN fun _ _ _ _ _ _ us hl => match us, hl with | [_], _ => rfl
theorem Txt.b_laid_out (T : Txt K mg) : Binds K (fdOf K "laid_out") ["threads", "manner"] [] := T.F_laid_out.bindsN fun _ _ _ _ _ _ us hl => match us, hl with | [_, _], _ => rfl
theorem Txt.b_begun_at (T : Txt K mg) : Binds K (fdOf K "begun_at") ["threads", "place"] [] := T.F_begun_at.bindsN fun _ _ _ _ _ _ us hl => match us, hl with | [_, _], _ => rfl
theorem Txt.b_told_from (T : Txt K mg) : Binds K (fdOf K "told_from") ["threads", "place", "many"] [] := T.F_told_from.bindsN fun _ _ _ _ _ _ us hl => match us, hl with | [_, _, _], _ => rfl
theorem Txt.b_least_round (T : Txt K mg) : Binds K (fdOf K "least_round") ["threads"] [] := T.F_least_round.bindsN fun _ _ _ _ _ _ us hl => match us, hl with | [_], _ => rfl
theorem Txt.b_short_round (T : Txt K mg) : Binds K (fdOf K "short_round") ["threads"] [] := T.F_short_round.bindsN fun _ _ _ _ _ _ us hl => match us, hl with | [_], _ => rfl
theorem Txt.b_least_beginning (T : Txt K mg) : Binds K (fdOf K "least_beginning") ["threads"] [] := T.F_least_beginning.bindsN fun _ _ _ _ _ _ us hl => match us, hl with | [_], _ => rfl
theorem Txt.b_row_of_threads (T : Txt K mg) : Binds K (fdOf K "row_of_threads") ["threads"] [] := T.F_row_of_threads.bindsN fun _ _ _ _ _ _ us hl => match us, hl with | [_], _ => rfl
theorem Txt.b_shows_round (T : Txt K mg) : Binds K (fdOf K "shows_round") ["threads", "size"] [] := T.F_shows_round.bindsN fun _ _ _ _ _ _ us hl => match us, hl with | [_, _], _ => rfl
theorem Txt.b1_can_be (T : Txt K mg) : ∃ ds, Vals [.non] ds ∧ Binds K (fdOf K "can_be") ["piece", "most"] ds := T.F_can_be.binds1 1 0 (by decide) (by decide) fun _ _ _ _ _ _ _ us its hl hi => match us, hl, its, hi with | [u0], _, [i0], _ => ⟨_, rfl, rfl⟩
theorem Txt.b2_can_be (T : Txt K mg) : ∃ ds, Vals [] ds ∧ Binds K (fdOf K "can_be") ["piece", "most"] ds := T.F_can_be.binds1 2 1 (by decide) (by decide) fun _ _ _ _ _ _ _ us its hl hi => match us, hl, its, hi with | [u0, u1], _, [i0], _ => ⟨_, rfl, rfl⟩
theorem Txt.b_longest_agreement (T : Txt K mg) : Binds K (fdOf K "longest_agreement") ["threads", "by"] [] := T.F_longest_agreement.bindsN fun _ _ _ _ _ _ us hl => match us, hl with | [_, _], _ => rfl
theorem Txt.b_longest_mistaken (T : Txt K mg) : Binds K (fdOf K "longest_mistaken") ["threads", "by", "most"] [] := T.F_longest_mistaken.bindsN fun _ _ _ _ _ _ us hl => match us, hl with | [_, _, _], _ => rfl
theorem Txt.b_enough (T : Txt K mg) : Binds K (fdOf K "enough") ["row", "most"] [] := T.F_enough.bindsN fun _ _ _ _ _ _ us hl => match us, hl with | [_, _], _ => rfl
theorem Txt.b_fits (T : Txt K mg) : Binds K (fdOf K "fits") ["row", "piece"] [] := T.F_fits.bindsN fun _ _ _ _ _ _ us hl => match us, hl with | [_, _], _ => rfl
theorem Txt.b_cut (T : Txt K mg) : Binds K (fdOf K "cut") ["row", "first", "last"] [] := T.F_cut.bindsN fun _ _ _ _ _ _ us hl => match us, hl with | [_, _, _], _ => rfl
theorem Txt.b__law_pool (T : Txt K mg) : Binds K (fdOf K "_law_pool") ["_law_script", "_law_k"] [] := T.F__law_pool.bindsN fun _ _ _ _ _ _ us hl => match us, hl with | [_, _], _ => rfl
theorem Txt.b__law_take (T : Txt K mg) : Binds K (fdOf K "_law_take") ["_law_pool_here", "_law_many"] [] := T.F__law_take.bindsN fun _ _ _ _ _ _ us hl => match us, hl with | [_, _], _ => rfl
theorem Txt.b__law_far (T : Txt K mg) : Binds K (fdOf K "_law_far") ["_law_pool_here", "_law_size"] [] := T.F__law_far.bindsN fun _ _ _ _ _ _ us hl => match us, hl with | [_, _], _ => rfl
theorem Txt.b__law_some_shades (T : Txt K mg) : Binds K (fdOf K "_law_some_shades") ["_law_pool_here", "_law_many"] [] := T.F__law_some_shades.bindsN fun _ _ _ _ _ _ us hl => match us, hl with | [_, _], _ => rfl
theorem Txt.b__law_parts (T : Txt K mg) : Binds K (fdOf K "_law_parts") ["_law_pool_here", "_law_upto", "_law_wide"] [] := T.F__law_parts.bindsN fun _ _ _ _ _ _ us hl => match us, hl with | [_, _, _], _ => rfl
theorem Txt.b__law_word (T : Txt K mg) : Binds K (fdOf K "_law_word") ["_law_parts_here", "_law_tack"] [] := T.F__law_word.bindsN fun _ _ _ _ _ _ us hl => match us, hl with | [_, _], _ => rfl
theorem Txt.b__law_round (T : Txt K mg) : Binds K (fdOf K "_law_round") ["_law_words"] [] := T.F__law_round.bindsN fun _ _ _ _ _ _ us hl => match us, hl with | [_], _ => rfl
theorem Txt.b__law_drawn (T : Txt K mg) : Binds K (fdOf K "_law_drawn") ["_law_pool_here", "_law_upto", "_law_wide"] [] := T.F__law_drawn.bindsN fun _ _ _ _ _ _ us hl => match us, hl with | [_, _, _], _ => rfl
theorem Txt.b__law_among (T : Txt K mg) : Binds K (fdOf K "_law_among") ["_law_band", "_law_bands"] [] := T.F__law_among.bindsN fun _ _ _ _ _ _ us hl => match us, hl with | [_, _], _ => rfl
theorem Txt.b__law_shown (T : Txt K mg) : Binds K (fdOf K "_law_shown") ["_law_piece", "_law_upto"] [] := T.F__law_shown.bindsN fun _ _ _ _ _ _ us hl => match us, hl with | [_, _], _ => rfl
theorem Txt.b__law_piece_right (T : Txt K mg) : Binds K (fdOf K "_law_piece_right") ["_law_pool_here", "_law_band"] [] := T.F__law_piece_right.bindsN fun _ _ _ _ _ _ us hl => match us, hl with | [_, _], _ => rfl
theorem Txt.b__law_enough_right (T : Txt K mg) : Binds K (fdOf K "_law_enough_right") ["_law_pool_here", "_law_band"] [] := T.F__law_enough_right.bindsN fun _ _ _ _ _ _ us hl => match us, hl with | [_, _], _ => rfl
theorem Txt.b_law (T : Txt K mg) : Binds K (fdOf K "law") ["_law_script"] [] := T.F_law.bindsN fun _ _ _ _ _ _ us hl => match us, hl with | [_], _ => rfl
theorem Txt.b2_Row___init__ (T : Txt K mg) : ∃ ds, Vals [.str "run", .int (0)] ds ∧ Binds K (fdAt K (ma K (ga K "Row") "__init__")) ["self", "stripes", "manner", "start"] ds := T.F_Row___init__.binds1 2 0 (by decide) (by decide) fun _ _ _ _ _ _ _ us its hl hi => match us, hl, its, hi with | [u0, u1], _, [i0, i1], _ => ⟨_, rfl, rfl⟩
theorem Txt.b3_Row___init__ (T : Txt K mg) : ∃ ds, Vals [.int (0)] ds ∧ Binds K (fdAt K (ma K (ga K "Row") "__init__")) ["self", "stripes", "manner", "start"] ds := T.F_Row___init__.binds1 3 1 (by decide) (by decide) fun _ _ _ _ _ _ _ us its hl hi => match us, hl, its, hi with | [u0, u1, u2], _, [i0, i1], _ => ⟨_, rfl, rfl⟩
theorem Txt.b4_Row___init__ (T : Txt K mg) : ∃ ds, Vals [] ds ∧ Binds K (fdAt K (ma K (ga K "Row") "__init__")) ["self", "stripes", "manner", "start"] ds := T.F_Row___init__.binds1 4 2 (by decide) (by decide) fun _ _ _ _ _ _ _ us its hl hi => match us, hl, its, hi with | [u0, u1, u2, u3], _, [i0, i1], _ => ⟨_, rfl, rfl⟩
theorem Txt.b_Row_at (T : Txt K mg) : Binds K (fdAt K (ma K (ga K "Row") "at")) ["self", "spot"] [] := T.F_Row_at.bindsN fun _ _ _ _ _ _ us hl => match us, hl with | [_, _], _ => rfl
theorem Txt.b_Row_threads (T : Txt K mg) : Binds K (fdAt K (ma K (ga K "Row") "threads")) ["self"] [] := T.F_Row_threads.bindsN fun _ _ _ _ _ _ us hl => match us, hl with | [_], _ => rfl
theorem Txt.b_Row_shades (T : Txt K mg) : Binds K (fdAt K (ma K (ga K "Row") "shades")) ["self"] [] := T.F_Row_shades.bindsN fun _ _ _ _ _ _ us hl => match us, hl with | [_], _ => rfl
theorem Txt.b_Row_moved (T : Txt K mg) : Binds K (fdAt K (ma K (ga K "Row") "moved")) ["self", "by"] [] := T.F_Row_moved.bindsN fun _ _ _ _ _ _ us hl => match us, hl with | [_, _], _ => rfl
theorem Txt.b_Row_turned (T : Txt K mg) : Binds K (fdAt K (ma K (ga K "Row") "turned")) ["self"] [] := T.F_Row_turned.bindsN fun _ _ _ _ _ _ us hl => match us, hl with | [_], _ => rfl
theorem Txt.b_Row_alike (T : Txt K mg) : Binds K (fdAt K (ma K (ga K "Row") "alike")) ["self", "other"] [] := T.F_Row_alike.bindsN fun _ _ _ _ _ _ us hl => match us, hl with | [_, _], _ => rfl
theorem Txt.b_Row___len__ (T : Txt K mg) : Binds K (fdAt K (ma K (ga K "Row") "__len__")) ["self"] [] := T.F_Row___len__.bindsN fun _ _ _ _ _ _ us hl => match us, hl with | [_], _ => rfl
theorem Txt.b_Row___eq__ (T : Txt K mg) : Binds K (fdAt K (ma K (ga K "Row") "__eq__")) ["self", "other"] [] := T.F_Row___eq__.bindsN fun _ _ _ _ _ _ us hl => match us, hl with | [_, _], _ => rfl
theorem Txt.b_Row___str__ (T : Txt K mg) : Binds K (fdAt K (ma K (ga K "Row") "__str__")) ["self"] [] := T.F_Row___str__.bindsN fun _ _ _ _ _ _ us hl => match us, hl with | [_], _ => rfl
theorem Txt.b_Row___repr__ (T : Txt K mg) : Binds K (fdAt K (ma K (ga K "Row") "__repr__")) ["self"] [] := T.F_Row___repr__.bindsN fun _ _ _ _ _ _ us hl => match us, hl with | [_], _ => rfl
theorem Txt.b_Piece___init__ (T : Txt K mg) : Binds K (fdAt K (ma K (ga K "Piece") "__init__")) ["self", "threads"] [] := T.F_Piece___init__.bindsN fun _ _ _ _ _ _ us hl => match us, hl with | [_, _], _ => rfl
theorem Txt.b_Piece_threads (T : Txt K mg) : Binds K (fdAt K (ma K (ga K "Piece") "threads")) ["self"] [] := T.F_Piece_threads.bindsN fun _ _ _ _ _ _ us hl => match us, hl with | [_], _ => rfl
theorem Txt.b_Piece_joined (T : Txt K mg) : Binds K (fdAt K (ma K (ga K "Piece") "joined")) ["self", "other"] [] := T.F_Piece_joined.bindsN fun _ _ _ _ _ _ us hl => match us, hl with | [_, _], _ => rfl
theorem Txt.b_Piece___len__ (T : Txt K mg) : Binds K (fdAt K (ma K (ga K "Piece") "__len__")) ["self"] [] := T.F_Piece___len__.bindsN fun _ _ _ _ _ _ us hl => match us, hl with | [_], _ => rfl
theorem Txt.b_Piece___eq__ (T : Txt K mg) : Binds K (fdAt K (ma K (ga K "Piece") "__eq__")) ["self", "other"] [] := T.F_Piece___eq__.bindsN fun _ _ _ _ _ _ us hl => match us, hl with | [_, _], _ => rfl
theorem Txt.b_Piece___str__ (T : Txt K mg) : Binds K (fdAt K (ma K (ga K "Piece") "__str__")) ["self"] [] := T.F_Piece___str__.bindsN fun _ _ _ _ _ _ us hl => match us, hl with | [_], _ => rfl
theorem Txt.b_Piece___repr__ (T : Txt K mg) : Binds K (fdAt K (ma K (ga K "Piece") "__repr__")) ["self"] [] := T.F_Piece___repr__.bindsN fun _ _ _ _ _ _ us hl => match us, hl with | [_], _ => rfl
end
end S11

namespace S11
open PySem PySem.Spec PyProof.Rows L2 L2.Own He Sl
/-! ## kinds -/
def strV : V → Bool
  | .str _ => true
  | _ => false
def intV : V → Bool
  | .int _ => true
  | .bl _ => true
  | _ => false
def blV : V → Bool
  | .bl _ => true
  | _ => false
def wholeV : V → Bool
  | .int _ => true
  | _ => false
def tupV (H : Hp) : V → Bool
  | .ref a => (match H a with
    | some (.tup _) => true
    | _ => false)
  | _ => false
theorem Th.ty {K : PySem.W.Frag} {H : Hp} {v : V} (h : Th H v) : ∃ t, TyX K H v (.type t) ∧ kitB t "str" = some (strV v) ∧ kitB t "int" = some (intV v) ∧ kitB t "bool" = some (blV v) ∧ kitB t "tuple" = some (tupV H v) := by
  cases h with
  | non => exact ⟨_, .base .non, by decide +kernel, by decide +kernel, by decide +kernel, by show kitB "NoneType" "tuple" = some false; decide +kernel⟩
  | bl b => exact ⟨_, .base (.bl b), by show kitB "bool" "str" = some false; decide +kernel, by show kitB "bool" "int" = some true; decide +kernel, by show kitB "bool" "bool" = some true; decide +kernel, by show kitB "bool" "tuple" = some false; decide +kernel⟩
  | int i => exact ⟨_, .base (.int i), by show kitB "int" "str" = some false; decide +kernel, by show kitB "int" "int" = some true; decide +kernel, by show kitB "int" "bool" = some false; decide +kernel, by show kitB "int" "tuple" = some false; decide +kernel⟩
  | str z h => exact ⟨_, .base (.str z), by show kitB "str" "str" = some true; decide +kernel, by show kitB "str" "int" = some false; decide +kernel, by show kitB "str" "bool" = some false; decide +kernel, by show kitB "str" "tuple" = some false; decide +kernel⟩
  | @lst a xs h =>
    have e : tupV H (.ref a) = false := by simp only [tupV, h]
    rw [e]
    exact ⟨_, .base (.lst h), by show kitB "list" "str" = some false; decide +kernel, by show kitB "list" "int" = some false; decide +kernel, by show kitB "list" "bool" = some false; decide +kernel, by decide +kernel⟩
  | @tup a xs h =>
    have e : tupV H (.ref a) = true := by simp only [tupV, h]
    rw [e]
    exact ⟨_, .base (.tup h), by show kitB "tuple" "str" = some false; decide +kernel, by show kitB "tuple" "int" = some false; decide +kernel, by show kitB "tuple" "bool" = some false; decide +kernel, by decide +kernel⟩
  | @dic a xs h =>
    have e : tupV H (.ref a) = false := by simp only [tupV, h]
    rw [e]
    exact ⟨_, .base (.dK h), by show kitB "dict" "str" = some false; decide +kernel, by show kitB "dict" "int" = some false; decide +kernel, by show kitB "dict" "bool" = some false; decide +kernel, by decide +kernel⟩
/-! ## promises -/
def spWhole : Sp := fun vs H Q _ => ∃ v, vs = [v] ∧ Th H v ∧ Q (.bl (wholeV v)) H
def spShade : Sp := fun vs H Q _ => ∃ v, vs = [v] ∧ Th H v ∧ ∀ H', Same H H' → Q (.bl (shV v)) H'
section
variable {P : Program} {w : World} {K : PySem.W.Frag} {mg : Str → Option Value} {base : Heap}
def N_is_whole : List Str := ["thing"]
theorem sc_is_whole : FnScope N_is_whole ["thing"] (defScope s_is_whole) := ⟨rfl, rfl, rfl, by decide +kernel, rfl, by decide +kernel, by decide +kernel⟩
theorem ok_is_whole (T : Txt K mg) : FnOk P w K mg base CX0 2 (ga K "is_whole") (fdOf K "is_whole") ["thing"] spWhole := by
  refine T.F_is_whole.ok sc_is_whole (fun vs H Q E h => ?_) (fun cdv A outer s H vs Q E hr h => ?_)
  · obtain ⟨v, rfl, _⟩ := h
    rfl
  · obtain ⟨v, rfl, hv, hQ⟩ := h
    obtain ⟨t, ty, k1, k2, k3, k4⟩ := Th.ty (K := K) hv
    refine ⟨_, PSs.nox (pss_one (ps_ret (pe_and (pe_callB call_isi (by rfl) T.f_isinstance (by decide +kernel) (pa_cons (pv 0) (pa_cons (pe_bltn (v := .ty "int") (by rfl) T.f_int (by decide +kernel) rfl) pa_nil))) (pe_one (pe_not (pe_callB call_isi (by rfl) T.f_isinstance (by decide +kernel) (pa_cons (pv 0) (pa_cons (pe_bltn (v := .ty "bool") (by rfl) T.f_bool (by decide +kernel) rfl) pa_nil)))))))), ?_⟩
    refine ⟨_, rfl, _, _, _, _, _, rfl, .ty _, ty, kit_ty k2, _, rfl, ite2 (fun c => ?_) fun c => ?_⟩
    · refine ⟨_, rfl, _, _, _, _, _, rfl, .ty _, ty, kit_ty k3, _, rfl, ?_⟩
      have e : (!blV v) = wholeV v := by
        cases v with
        | int i => rfl
        | bl b => rfl
        | _ => cases c
      show Q (.bl (!blV v)) H
      rw [e]
      exact hQ
    · have e : wholeV v = false := by
        cases v with
        | int i => exact absurd rfl c
        | _ => rfl
      rw [e] at hQ
      exact hQ
end
end S11

namespace S11
open PySem PySem.Spec PyProof.Rows L2 L2.Own He Sl
section
variable {P : Program} {w : World} {K : PySem.W.Frag} {mg : Str → Option Value} {base : Heap}
/-- slots: 0 thing, 1 most, 2 letter -/
def N_are_letters : List Str := ["thing", "most", "letter"]
theorem sc_are_letters : FnScope N_are_letters ["thing", "most"] (defScope s_are_letters) := ⟨rfl, rfl, rfl, by decide +kernel, rfl, by decide +kernel, by decide +kernel⟩
/-- the promise of are_letters, for three letters at most -/
def spThree : Sp := fun vs H Q _ => ∃ v, vs = [v, .int 3] ∧ Th H v ∧ ∀ H', Same H H' → Q (.bl (shV v)) H'
theorem sign_le (c : Nat) : (!decide ([c] < [97])) = decide (97 ≤ c) := by
  rw [Bool.eq_iff_iff]
  simp [List.cons_lt_cons_iff]
theorem sign_ge (c : Nat) : (!decide ([122] < [c])) = decide (c ≤ 122) := by
  rw [Bool.eq_iff_iff]
  simp [List.cons_lt_cons_iff]
theorem ok_are_letters (T : Txt K mg) : FnOk P w K mg base CX0 1 (ga K "are_letters") (fdOf K "are_letters") ["thing", "most"] spThree := by
  refine T.F_are_letters.ok sc_are_letters (fun vs H Q E h => ?_) (fun cdv A outer s H vs Q E hr h => ?_)
  · obtain ⟨v, rfl, _⟩ := h
    rfl
  · obtain ⟨v, rfl, hv, hQ⟩ := h
    obtain ⟨t, ty, k1, k2, k3, k4⟩ := Th.ty (K := K) hv
    refine ⟨_, PSs.nox (pss_cons (ps_if (PW.pt (pw_or (pt_not (pt_val (pe_callB call_isi (by rfl) T.f_isinstance (by decide +kernel) (pa_cons (pv 0) (pa_cons (pe_bltn (v := .ty "str") (by rfl) T.f_str (by decide +kernel) rfl) pa_nil))))) (pw_or1 (pt_not (pt_chain op_le op_le pe_int (pe_callB call_len (by rfl) T.f_len (by decide +kernel) (pa_cons (pv 0) pa_nil)) (pv 1))))))
    (pss_one (ps_ret pe_bl))
    pss_nil)
    (pss_one (ps_ret (pe_callB (cr_all rfl) (by rfl) T.f_all (by decide +kernel) (pa_cons (pe_lc (own := [("letter", 2)]) rfl sc_are_letters.nd (pi_str (pv 0)) (blkOk_by (own := [("letter", 2)]) (N := N_are_letters) (sc := defScope s_are_letters) (by decide +kernel)) (fun _ _ _ _ _ => (pg_name (i := 2) sc_are_letters.nd rfl (Or.inl rfl))) (fun _ _ _ _ _ => pts_nil) (fun _ _ _ _ _ => (pe_chain op_le_str op_le_str pe_str (pv 2) pe_str))) pa_nil))))), ?_⟩
    refine ⟨_, rfl, _, _, _, _, _, rfl, .ty _, ty, kit_ty k1, _, rfl, ite2 (fun c => iteT ?_) fun c => ?_⟩
    · have e : shV v = false := by
        cases v with
        | str z => cases c
        | _ => rfl
      rw [e] at hQ
      exact hQ H (Same.refl H)
    · cases hv with
      | str z hz =>
        refine ⟨_, rfl, _, _, rfl, ⟨hz, rfl⟩, _, _, rfl, rfl, _, rfl, ite2 (fun d => ?_) fun d => ?_⟩
        · refine ⟨_, rfl, _, _, rfl, rfl, _, rfl, ?_⟩
          refine ite2 (fun e => ?_) fun e => ?_
          · have q : shV (.str z) = false := by
              have e1 : ¬ (z.cps.size ≤ 3) := fun h => by
                have : decide ((z.length : Int) ≤ 3) = true := decide_eq_true (by show (z.cps.size : Int) ≤ 3; omega)
                rw [this] at e
                cases e
              show isSh z = false
              unfold isSh
              rw [decide_eq_false (fun h => e1 h.2)]
              rfl
            rw [q] at hQ
            exact hQ H (Same.refl H)
          · have d1 : 1 ≤ z.cps.size := by
              have h1 : (1 : Int) ≤ (z.cps.size : Int) := of_decide_eq_true d
              omega
            have e1 : z.cps.size ≤ 3 := by
              have h1 : decide ((z.cps.size : Int) ≤ 3) = true := by
                cases q : decide ((z.cps.size : Int) ≤ 3) with
                | true => rfl
                | false => exact absurd (by show (!decide ((z.cps.size : Int) ≤ 3)) = true; rw [q]; rfl) e
              have h2 := of_decide_eq_true h1
              omega
            refine ⟨_, rfl, z, rfl, fun D hD => lc_it walk_str (fun i H' => LcAt H D H' ((z.cps.toList.take i).map fun c => V.bl (decide (97 ≤ c ∧ c ≤ 122)))) (LcAt.start hD) (fun _ _ _ _ => True.intro) (fun i x H0 H1 hi hP hy => ?_) fun H1 hP => ?_⟩
            · obtain ⟨rfl, c, hc, rfl⟩ := hy
              have hc' : z.cps.toList[i]? = some c := by simpa using hc
              have fin : ∀ b : Bool, b = decide (97 ≤ c ∧ c ≤ 122) → ∃ acc, H1 D = some (.lst acc) ∧ acc.length < sizeLine ∧ LcAt H D (upd H1 D (.lst (acc ++ [V.bl b]))) ((z.cps.toList.take (i + 1)).map fun c => V.bl (decide (97 ≤ c ∧ c ≤ 122))) := fun b hb => by
                refine ⟨_, hP.it, ?_, ?_⟩
                · have h3 : ((z.cps.toList.take i).map fun c => V.bl (decide (97 ≤ c ∧ c ≤ 122))).length ≤ 100000 := by
                    rw [List.length_map, List.length_take, Array.length_toList]
                    omega
                  exact small h3
                · rw [take_more hc', List.map_append, hb]
                  exact hP.push
              refine ⟨rfl, _, rfl, _, _, rfl, rfl, _, rfl, ite2 (fun g => ?_) fun g => ?_⟩
              · refine ⟨_, _, rfl, rfl, fin _ ?_⟩
                have g1 : 97 ≤ c := of_decide_eq_true ((sign_le c).symm.trans g)
                show (!decide ([122] < [c])) = _
                rw [sign_ge, Bool.eq_iff_iff, decide_eq_true_iff, decide_eq_true_iff]
                exact ⟨fun h => ⟨g1, h⟩, fun h => h.2⟩
              · refine fin _ ?_
                have g1 : ¬ 97 ≤ c := fun h => g ((sign_le c).trans (decide_eq_true h))
                rw [decide_eq_false fun h => g1 h.1]
            · refine ⟨_, z.cps.toList.map fun c => decide (97 ≤ c ∧ c ≤ 122), rfl, ?_, ?_⟩
              · have q := hP.it
                rw [show z.cps.toList.take z.cps.size = z.cps.toList by rw [← Array.length_toList]; exact List.take_length] at q
                refine SqL.of ?_
                rw [q, List.map_map]
                rfl
              · have q : shV (.str z) = (z.cps.toList.map fun c => decide (97 ≤ c ∧ c ≤ 122)).all id := by
                  show isSh z = _
                  unfold isSh
                  rw [decide_eq_true (⟨d1, e1⟩ : 1 ≤ z.cps.size ∧ z.cps.size ≤ 3), Bool.true_and, List.all_map]
                  rfl
                rw [← q]
                exact hQ H1 hP.same
        · have q : shV (.str z) = false := by
            have e1 : ¬ (1 ≤ z.cps.size) := fun h => d (decide_eq_true (by show (1 : Int) ≤ (z.cps.size : Int); omega))
            show isSh z = false
            unfold isSh
            rw [decide_eq_false (fun h => e1 h.1)]
            rfl
          rw [q] at hQ
          refine ⟨_, rfl, iteT ?_⟩
          exact hQ H (Same.refl H)
      | _ => exact absurd rfl c
/- slots: 0 thing -/
def N_is_shade : List Str := ["thing"]
theorem sc_is_shade : FnScope N_is_shade ["thing"] (defScope s_is_shade) := ⟨rfl, rfl, rfl, by decide +kernel, rfl, by decide +kernel, by decide +kernel⟩
theorem ok_is_shade (T : Txt K mg) : FnOk P w K mg base CX0 2 (ga K "is_shade") (fdOf K "is_shade") ["thing"] (spShade) := by
  have G_are_letters := ok_are_letters (P := P) (w := w) (base := base) T
  refine T.F_is_shade.ok sc_is_shade (fun vs H Q E h => ?_) (fun cdv A outer s H vs Q E hr h => ?_)
  · obtain ⟨v, rfl, _⟩ := h
    rfl
  · obtain ⟨v, rfl, hv, hQ⟩ := h
    refine ⟨_, PSs.nox (pss_one (ps_ret (pe_call G_are_letters (hr.mono (by decide)) (by rfl) T.g_are_letters T.F_are_letters.kp T.b_are_letters .nil pass0 (pa_cons (pv 0) (pa_cons (pe_glob (v := .int 3) rfl T.m_MOST_LETTERS.choose_spec ⟨_, rfl⟩) pa_nil))))), ?_⟩
    exact ⟨_, rfl, v, rfl, hv, hQ⟩
end
end S11

namespace S11
open PySem PySem.Spec PyProof.Rows L2 L2.Own He Sl
def goodT (xs : List V) : Bool := decide (1 ≤ xs.length ∧ xs.length ≤ 240) && xs.all shV
def thrV (H : Hp) : V → Bool
  | .ref a => (match H a with
    | some (.tup xs) => goodT xs
    | _ => false)
  | _ => false
theorem thrV_tup {H : Hp} {a : Addr} {xs : List V} (h : H a = some (.tup xs)) : thrV H (.ref a) = goodT xs := by simp only [thrV, h]
theorem thrV_not {H : Hp} {v : V} (h : tupV H v = false) : thrV H v = false := by
  cases v with
  | ref a =>
    cases e : H a with
    | none => simp only [thrV, e]
    | some o =>
      cases o with
      | tup xs =>
        simp only [tupV, e] at h
        cases h
      | _ => simp only [thrV, e]
  | _ => rfl
theorem tupV_of {H : Hp} {v : V} (h : tupV H v = true) : ∃ a xs, v = .ref a ∧ H a = some (.tup xs) := by
  cases v with
  | ref a =>
    simp only [tupV] at h
    split at h
    · rename_i xs e
      exact ⟨a, xs, rfl, e⟩
    · cases h
  | _ => cases h
/-- a thing whose parts, if it is a tuple, are things -/
def Th2 (H : Hp) (v : V) : Prop := Th H v ∧ ∀ a xs, v = .ref a → H a = some (.tup xs) → ∀ x ∈ xs, Th H x
def spAre : Sp := fun vs H Q _ => ∃ v, vs = [v] ∧ Th2 H v ∧ ∀ H', Same H H' → Q (.bl (thrV H v)) H'
section
variable {P : Program} {w : World} {K : PySem.W.Frag} {mg : Str → Option Value} {base : Heap}
def N_are_threads : List Str := ["thing", "shade"]
theorem sc_are_threads : FnScope N_are_threads ["thing"] (defScope s_are_threads) := ⟨rfl, rfl, rfl, by decide +kernel, rfl, by decide +kernel, by decide +kernel⟩
theorem ok_are_threads (T : Txt K mg) : FnOk P w K mg base CX0 3 (ga K "are_threads") (fdOf K "are_threads") ["thing"] spAre := by
  have G_is_shade := ok_is_shade (P := P) (w := w) (base := base) T
  refine T.F_are_threads.ok sc_are_threads (fun vs H Q E h => ?_) (fun cdv A outer s H vs Q E hr h => ?_)
  · obtain ⟨v, rfl, _⟩ := h
    rfl
  · obtain ⟨v, rfl, ⟨hv, hv2⟩, hQ⟩ := h
    obtain ⟨t, ty, k1, k2, k3, k4⟩ := Th.ty (K := K) hv
    refine ⟨_, PSs.nox (pss_cons (ps_if (PW.pt (pw_or (pt_not (pt_val (pe_callB call_isi (by rfl) T.f_isinstance (by decide +kernel) (pa_cons (pv 0) (pa_cons (pe_bltn (v := .ty "tuple") (by rfl) T.f_tuple (by decide +kernel) rfl) pa_nil))))) (pw_or1 (pt_not (pt_chain op_le op_le pe_int (pe_callB call_len (by rfl) T.f_len (by decide +kernel) (pa_cons (pv 0) pa_nil)) (pe_glob (v := .int 240) rfl T.m_MOST_THREADS.choose_spec ⟨_, rfl⟩))))))
    (pss_one (ps_ret pe_bl))
    pss_nil)
    (pss_one (ps_ret (pe_callB (cr_all rfl) (by rfl) T.f_all (by decide +kernel) (pa_cons (pe_lc (own := [("shade", 1)]) rfl sc_are_threads.nd (pi_tup (pv 0)) (blkOk_by (own := [("shade", 1)]) (N := N_are_threads) (sc := defScope s_are_threads) (by decide +kernel)) (fun _ _ _ _ _ => (pg_name (i := 1) sc_are_threads.nd rfl (Or.inl rfl))) (fun _ _ _ _ _ => pts_nil) (fun _ _ _ _ _ => (pe_call G_is_shade (hr.mono (by decide)) (by rfl) T.g_is_shade T.F_is_shade.kp T.b_is_shade .nil pass0 (pa_cons (pv 1) pa_nil)))) pa_nil))))), ?_⟩
    refine ⟨_, rfl, _, _, _, _, _, rfl, .ty _, ty, kit_ty k4, _, rfl, ite2 (fun c => iteT ?_) fun c => ?_⟩
    · have e : tupV H v = false := by
        cases q : tupV H v with
        | false => rfl
        | true =>
          rw [q] at c
          cases c
      rw [thrV_not e] at hQ
      exact hQ H (Same.refl H)
    · have e : tupV H v = true := by
        cases q : tupV H v with
        | true => rfl
        | false => exact absurd (by rw [q]; rfl) c
      obtain ⟨a, xs, rfl, ha⟩ := tupV_of e
      rw [thrV_tup ha] at hQ
      have hx := hv2 a xs rfl ha
      refine ⟨_, rfl, _, _, rfl, Or.inr ⟨_, SqT.of ha, rfl⟩, _, _, rfl, rfl, _, rfl, ite2 (fun d => ?_) fun d => ?_⟩
      · have d1 : 1 ≤ xs.length := by
          have h1 : (1 : Int) ≤ (xs.length : Int) := of_decide_eq_true d
          omega
        refine ⟨_, _, rfl, rfl, _, rfl, ?_⟩
        refine ite2 (fun e => ?_) fun e => ?_
        · have q : goodT xs = false := by
            have e1 : ¬ (xs.length ≤ 240) := fun h => by
              have : decide ((xs.length : Int) ≤ 240) = true := decide_eq_true (by omega)
              rw [this] at e
              cases e
            unfold goodT
            rw [decide_eq_false (fun h => e1 h.2)]
            rfl
          rw [q] at hQ
          exact hQ H (Same.refl H)
        · have e1 : xs.length ≤ 240 := by
            have h1 : decide ((xs.length : Int) ≤ 240) = true := by
              cases q : decide ((xs.length : Int) ≤ 240) with
              | true => rfl
              | false => exact absurd (by rw [q]; rfl) e
            have h2 := of_decide_eq_true h1
            omega
          refine ⟨_, rfl, a, rfl, ⟨_, SqT.of ha⟩, fun D hD => lc_it (walk_tup (xs := xs)) (fun i H' => LcAt H D H' ((xs.take i).map fun v => V.bl (shV v))) (LcAt.start hD) (fun i H1 _ hP => SqT.of (hP.same _ _ ha)) (fun i x H0 H1 hi hP hy => ?_) fun H1 hP => ?_⟩
          · obtain ⟨rfl, hx1⟩ := hy
            have hm : Th H x := hx x (List.mem_of_getElem? hx1)
            refine ⟨rfl, _, rfl, x, rfl, hm.same hP.same, fun H3 s3 => ⟨_, (hP.keep s3).it, ?_, ?_⟩⟩
            · refine small ?_
              rw [List.length_map, List.length_take]
              omega
            · rw [take_more hx1, List.map_append]
              exact (hP.keep s3).push
          · refine ⟨_, xs.map shV, rfl, ?_, ?_⟩
            · have q := hP.it
              rw [List.take_length] at q
              refine SqL.of ?_
              rw [q, List.map_map]
              rfl
            · have q : goodT xs = (xs.map shV).all id := by
                unfold goodT
                rw [decide_eq_true (⟨d1, e1⟩ : 1 ≤ xs.length ∧ xs.length ≤ 240), Bool.true_and, List.all_map]
                rfl
              rw [← q]
              exact hQ H1 hP.same
      · have q : goodT xs = false := by
          have e1 : ¬ (1 ≤ xs.length) := fun h => d (decide_eq_true (by show (1 : Int) ≤ (xs.length : Int); omega))
          unfold goodT
          rw [decide_eq_false (fun h => e1 h.1)]
          rfl
        rw [q] at hQ
        refine ⟨_, rfl, iteT ?_⟩
        exact hQ H (Same.refl H)
end
end S11

namespace S11
open PySem PySem.Spec PyProof.Rows L2 L2.Own He Sl
/-- whether a thing is a stripe, and its count -/
def pairV : List V → Option Int
  | [x, .int n] => if shV x = true ∧ 1 ≤ n then some n else none
  | _ => none
def strpV (H : Hp) : V → Option Int
  | .ref a => (match H a with
    | some (.tup xs) => pairV xs
    | _ => none)
  | _ => none
theorem strpV_tup {H : Hp} {a : Addr} {xs : List V} (h : H a = some (.tup xs)) : strpV H (.ref a) = pairV xs := by simp only [strpV, h]
theorem strpV_not {H : Hp} {v : V} (h : tupV H v = false) : strpV H v = none := by
  cases v with
  | ref a =>
    cases e : H a with
    | none => simp only [strpV, e]
    | some o =>
      cases o with
      | tup xs =>
        simp only [tupV, e] at h
        cases h
      | _ => simp only [strpV, e]
  | _ => rfl
theorem pairV_len {xs : List V} (h : xs.length ≠ 2) : pairV xs = none := by
  unfold pairV
  split
  · exact absurd rfl h
  · rfl
def spStripe : Sp := fun vs H Q _ => ∃ v, vs = [v] ∧ Th2 H v ∧ ∀ H', Same H H' → Q (.bl (strpV H v).isSome) H'
section
variable {P : Program} {w : World} {K : PySem.W.Frag} {mg : Str → Option Value} {base : Heap}
def N_is_stripe : List Str := ["thing", "shade", "many"]
theorem sc_is_stripe : FnScope N_is_stripe ["thing"] (defScope s_is_stripe) := ⟨rfl, rfl, rfl, by decide +kernel, rfl, by decide +kernel, by decide +kernel⟩
theorem ok_is_stripe (T : Txt K mg) : FnOk P w K mg base CX0 3 (ga K "is_stripe") (fdOf K "is_stripe") ["thing"] spStripe := by
  have G_is_shade := ok_is_shade (P := P) (w := w) (base := base) T
  have G_is_whole := ok_is_whole (P := P) (w := w) (base := base) T
  refine T.F_is_stripe.ok sc_is_stripe (fun vs H Q E h => ?_) (fun cdv A outer s H vs Q E hr h => ?_)
  · obtain ⟨v, rfl, _⟩ := h
    rfl
  · obtain ⟨v, rfl, ⟨hv, hv2⟩, hQ⟩ := h
    obtain ⟨t, ty, k1, k2, k3, k4⟩ := Th.ty (K := K) hv
    refine ⟨_, PSs.nox (pss_cons (ps_if (PW.pt (pw_or (pt_not (pt_val (pe_callB call_isi (by rfl) T.f_isinstance (by decide +kernel) (pa_cons (pv 0) (pa_cons (pe_bltn (v := .ty "tuple") (by rfl) T.f_tuple (by decide +kernel) rfl) pa_nil))))) (pw_or1 (pt_cmpR op_ne (pe_callB call_len (by rfl) T.f_len (by decide +kernel) (pa_cons (pv 0) pa_nil)) pe_int (nomark _)))))
    (pss_one (ps_ret pe_bl))
    pss_nil)
    (pss_cons (ps_asg (pv 0) (pg_tup rfl (pgs_cons (pg_name (i := 1) sc_is_stripe.nd rfl (Or.inl rfl)) (pgs_cons (pg_name (i := 2) sc_is_stripe.nd rfl (Or.inl rfl)) pgs_nil))))
    (pss_one (ps_ret (pe_and (pe_call G_is_shade (hr.mono (by decide)) (by rfl) T.g_is_shade T.F_is_shade.kp T.b_is_shade .nil pass0 (pa_cons (pv 1) pa_nil)) (pe_and (pe_call G_is_whole (hr.mono (by decide)) (by rfl) T.g_is_whole T.F_is_whole.kp T.b_is_whole .nil pass0 (pa_cons (pv 2) pa_nil)) (pe_one (pe_cmpR op_ge (pv 2) pe_int (nomark _))))))))), ?_⟩
    refine ⟨_, rfl, _, _, _, _, _, rfl, .ty _, ty, kit_ty k4, _, rfl, ite2 (fun c => iteT ?_) fun c => ?_⟩
    · have e : tupV H v = false := by
        cases q : tupV H v with
        | false => rfl
        | true =>
          rw [q] at c
          cases c
      rw [strpV_not e] at hQ
      exact hQ H (Same.refl H)
    · have e : tupV H v = true := by
        cases q : tupV H v with
        | true => rfl
        | false => exact absurd (by rw [q]; rfl) c
      obtain ⟨a, xs, rfl, ha⟩ := tupV_of e
      rw [strpV_tup ha] at hQ
      have hx := hv2 a xs rfl ha
      refine ⟨_, rfl, _, _, rfl, Or.inr ⟨_, SqT.of ha, rfl⟩, rfl, _, rfl, ?_⟩
      by_cases hl : xs.length = 2
      · rw [show (!decide (V.int (xs.length : Nat) = V.int 2)) = false by rw [hl]; rfl]
        refine iteF ?_
        obtain ⟨x, y, rfl⟩ : ∃ x y, xs = [x, y] := by
          match xs, hl with
          | [x, y], _ => exact ⟨x, y, rfl⟩
        have hx1 : Th H x := hx x (by simp)
        have hy1 : Th H y := hx y (by simp)
        refine ⟨_, rfl, a, _, rfl, SqT.of ha, rfl, _, _, rfl, _, _, rfl, rfl, ?_⟩
        refine ⟨_, rfl, x, rfl, hx1, fun H1 s1 => ⟨_, rfl, ite2 (fun d => ?_) fun d => ?_⟩⟩
        · refine ⟨_, rfl, y, rfl, hy1.same s1, _, rfl, ite2 (fun g => ?_) fun g => ?_⟩
          · cases y with
            | int n =>
              refine ⟨_, rfl, _, _, rfl, rfl, ?_⟩
              have q : (pairV [x, .int n]).isSome = decide (n ≥ 1) := by
                show (if shV x = true ∧ 1 ≤ n then some n else none).isSome = decide (n ≥ 1)
                by_cases hn : 1 ≤ n
                · rw [if_pos ⟨d, hn⟩, decide_eq_true hn]
                  rfl
                · rw [if_neg fun h => hn h.2, decide_eq_false hn]
                  rfl
              rw [q] at hQ
              exact hQ H1 s1
            | _ => cases g
          · have q : pairV [x, y] = none := by
              cases y with
              | int n => exact absurd rfl g
              | _ => rfl
            rw [q] at hQ
            exact hQ H1 s1
        · have q : pairV [x, y] = none := by
            cases y with
            | int n => exact if_neg fun h => d h.1
            | _ => rfl
          rw [q] at hQ
          exact hQ H1 s1
      · rw [show (!decide (V.int (xs.length : Nat) = V.int 2)) = true by
          have : V.int (xs.length : Nat) ≠ V.int 2 := fun h => hl (by
            have := V.int.inj h
            omega)
          rw [decide_eq_false this]
          rfl]
        refine iteT ?_
        rw [pairV_len hl] at hQ
        exact hQ H (Same.refl H)
end
/-! ## the first stripe that can't stand -/
def fw (H : Hp) : Nat → Int → List V → Option Nat
  | _, _, [] => none
  | i, n, v :: r => match strpV H v with
    | none => some i
    | some k => if n + k > 240 then some i else fw H (i + 1) (n + k) r
def natV : Option Nat → V
  | none => .non
  | some i => .int (i : Nat)
theorem strpV_same {H H' : Hp} {v : V} (s : Same H H') (h : Th H v) : strpV H' v = strpV H v := by
  cases h with
  | lst h => simp only [strpV, h, s _ _ h]
  | tup h => simp only [strpV, h, s _ _ h]
  | dic h => simp only [strpV, h, s _ _ h]
  | _ => rfl
theorem Th2.same {H H' : Hp} {v : V} (s : Same H H') (h : Th2 H v) : Th2 H' v := by
  obtain ⟨h1, h2⟩ := h
  refine ⟨h1.same s, fun a xs e ha x hx => ?_⟩
  subst e
  cases h1 with
  | lst h =>
    rw [s _ _ h] at ha
    cases ha
  | dic h =>
    rw [s _ _ h] at ha
    cases ha
  | tup h =>
    rw [s _ _ h] at ha
    cases ha
    exact (h2 _ _ rfl h x hx).same s
def spWrong : Sp := fun vs H Q _ => ∃ a xs, vs = [.ref a] ∧ H a = some (.tup xs) ∧ (∀ x ∈ xs, Th2 H x) ∧ ∀ H', Same H H' → Q (natV (fw H 0 0 xs)) H'
section
variable {P : Program} {w : World} {K : PySem.W.Frag} {mg : Str → Option Value} {base : Heap}
def N_first_wrong : List Str := ["stripes", "threads", "number", "stripe"]
theorem sc_first_wrong : FnScope N_first_wrong ["stripes"] (defScope s_first_wrong) := ⟨rfl, rfl, rfl, by decide +kernel, rfl, by decide +kernel, by decide +kernel⟩
theorem ok_first_wrong (T : Txt K mg) : FnOk P w K mg base CX0 4 (ga K "first_wrong") (fdOf K "first_wrong") ["stripes"] spWrong := by
  have G_is_stripe := ok_is_stripe (P := P) (w := w) (base := base) T
  refine T.F_first_wrong.ok sc_first_wrong (fun vs H Q E h => ?_) (fun cdv A outer s H vs Q E hr h => ?_)
  · obtain ⟨a, xs, rfl, _⟩ := h
    rfl
  · obtain ⟨a, xs, rfl, ha, hx, hQ⟩ := h
    refine ⟨_, PSs.nox (pss_cons (ps_set (i := 1) sc_first_wrong.nd rfl (Or.inl rfl) pe_int)
    (pss_cons (ps_for PassesOwn.never rfl (L2.Own.pi_enumT (by rfl) T.f_enumerate (pa_cons (pv 0) pa_nil)) (pg_tup rfl (pgs_cons (pg_name (i := 2) sc_first_wrong.nd rfl (Or.inl rfl)) (pgs_cons (pg_name (i := 3) sc_first_wrong.nd rfl (Or.inl rfl)) pgs_nil)))
    (pss_cons (ps_if (pt_not (pt_val (pe_call G_is_stripe (hr.mono (by decide)) (by rfl) T.g_is_stripe T.F_is_stripe.kp T.b_is_stripe .nil pass0 (pa_cons (pv 3) pa_nil))))
     (pss_one (ps_ret (pv 2)))
     pss_nil)
     (pss_cons (ps_aug (i := 1) sc_first_wrong.nd rfl (Or.inl rfl) (pe_ix ix_tup (pv 3) pe_int (fun _ _ => rfl)) ip_add)
     (pss_one (ps_if (pt_cmpR op_gt (pv 1) (pe_glob (v := .int 240) rfl T.m_MOST_THREADS.choose_spec ⟨_, rfl⟩) (nomark _))
     (pss_one (ps_ret (pv 2)))
     pss_nil)))))
    (pss_one (ps_ret pe_non)))), ?_⟩
    refine ⟨_, rfl, a, xs, rfl, SqT.of ha, ?_⟩
    refine for_it (walk_enumT (xs := xs)) (fun i σ H' => ∃ n u3 u4, σ = [some (.ref a), some (.int n), u3, u4] ∧ Same H H' ∧ fw H 0 0 xs = fw H i n (xs.drop i)) ⟨0, none, none, rfl, Same.refl H, rfl⟩ (fun i σ H' _ hP => ?_) (fun i x σ H0 H1 hi hP hy => ?_) fun σ H1 hP => ?_
    · obtain ⟨n, u3, u4, rfl, s1, _⟩ := hP
      exact SqT.of (s1 _ _ ha)
    · obtain ⟨n, u3, u4, rfl, s1, hf⟩ := hP
      obtain ⟨t, x1, y, rfl, ht, rfl, e1, e2⟩ := hy
      cases e1
      have e2 : xs[i]? = some y := e2
      have s2 : Same H (upd H0 t (.tup [.int (i : Nat), y])) := s1.trans (same_new ht)
      have hy2 : Th2 H y := hx y (List.mem_of_getElem? e2)
      have hd : xs.drop i = y :: xs.drop (i + 1) := by
        rw [List.drop_eq_getElem_cons hi]
        rw [List.getElem?_eq_getElem hi] at e2
        cases e2
        rfl
      rw [hd] at hf
      refine ⟨t, _, rfl, SqT.of upd_same, rfl, _, _, rfl, _, _, rfl, rfl, ?_⟩
      refine ⟨_, rfl, y, rfl, hy2.same s2, fun H3 s3 => ⟨_, rfl, ?_⟩⟩
      rw [strpV_same s2 hy2.1]
      have s4 := s2.trans s3
      cases hk : strpV H y with
      | none =>
        refine iteT ⟨_, rfl, ?_⟩
        have q : fw H 0 0 xs = some i := by
          rw [hf]
          simp only [fw, hk]
        rw [q] at hQ
        exact hQ H3 s4
      | some k =>
        refine iteF ?_
        obtain ⟨b, zs, rfl, hb⟩ : ∃ b zs, y = .ref b ∧ H b = some (.tup zs) := tupV_of (by
          cases q : tupV H y with
          | true => rfl
          | false =>
            rw [strpV_not q] at hk
            cases hk)
        rw [strpV_tup hb] at hk
        obtain ⟨z, hz⟩ : ∃ z, zs = [z, .int k] := by
          unfold pairV at hk
          split at hk
          · rename_i z n
            split at hk
            · cases hk
              exact ⟨z, rfl⟩
            · cases hk
          · cases hk
        subst hz
        refine ⟨_, rfl, _, rfl, b, _, _, _, rfl, rfl, SqT.of (s4 _ _ hb), rfl, ?_⟩
        refine ⟨_, _, rfl, rfl, ?_⟩
        refine ⟨_, rfl, _, _, rfl, rfl, _, rfl, ite2 (fun g => ?_) fun g => ?_⟩
        · have g1 : n + k > 240 := of_decide_eq_true g
          refine ⟨_, rfl, ?_⟩
          have q : fw H 0 0 xs = some i := by
            rw [hf]
            simp only [fw, strpV_tup hb, hk]
            rw [if_pos g1]
          rw [q] at hQ
          exact hQ H3 s4
        · have g1 : ¬ n + k > 240 := fun h => g (decide_eq_true h)
          refine ⟨_, _, _, rfl, s4, ?_⟩
          rw [hf]
          simp only [fw, strpV_tup hb, hk]
          rw [if_neg g1]
    · obtain ⟨n, u3, u4, rfl, s1, hf⟩ := hP
      rw [List.drop_length] at hf
      have q : fw H 0 0 xs = none := hf
      rw [q] at hQ
      exact hQ H1 s1
end
end S11

namespace S11
open PySem PySem.Spec PyProof.Rows L2 L2.Own He Sl
/-- stripes that stand -/
structure Fine (l : List (Str × Nat)) : Prop where
  ne : l ≠ []
  sh : ∀ s ∈ l, isSh s.1 = true
  pos : Pos l
  most : total l ≤ 240
theorem Prs.th2 {H : Hp} : ∀ {ps : List V} {l : List (Str × Nat)}, Prs H ps l → (∀ s ∈ l, s.1.cps.size ≤ sizeLine) → ∀ x ∈ ps, Th2 H x
  | [], [], _, _, x, hx => nomatch hx
  | [], _ :: _, h, _, _, _ => h.elim
  | _ :: _, [], h, _, _, _ => h.elim
  | v :: vs, s :: l, ⟨⟨a, e, h⟩, r⟩, hs, x, hx => by
    rcases List.mem_cons.mp hx with q | q
    · subst q e
      refine ⟨.tup h, fun b xs e1 e2 y hy => ?_⟩
      cases e1
      rw [h] at e2
      cases e2
      rcases List.mem_cons.mp hy with q | q
      · subst q
        exact .str _ (hs s List.mem_cons_self)
      · rw [List.mem_singleton.mp q]
        exact .int _
    · exact Prs.th2 r (fun t ht => hs t (List.mem_cons_of_mem _ ht)) x q
theorem fw_good {H : Hp} : ∀ {ps : List V} {l : List (Str × Nat)} {i : Nat} {n : Int}, Prs H ps l → (∀ s ∈ l, isSh s.1 = true) → Pos l → n + total l ≤ 240 → fw H i n ps = none
  | [], [], _, _, _, _, _, _ => rfl
  | [], _ :: _, _, _, h, _, _, _ => h.elim
  | _ :: _, [], _, _, h, _, _, _ => h.elim
  | v :: vs, s :: l, i, n, ⟨⟨a, e, h⟩, r⟩, hs, hp, ht => by
    subst e
    have e1 : strpV H (.ref a) = some (s.2 : Int) := by
      rw [strpV_tup h]
      show (if shV (.str s.1) = true ∧ (1 : Int) ≤ (s.2 : Nat) then some ((s.2 : Nat) : Int) else none) = _
      have h1 := hp s List.mem_cons_self
      rw [if_pos ⟨hs s List.mem_cons_self, by omega⟩]
    have e2 : total (s :: l) = s.2 + total l := rfl
    rw [e2] at ht
    simp only [fw, e1]
    rw [if_neg (by omega)]
    exact fw_good r (fun t h => hs t (List.mem_cons_of_mem _ h)) (fun t h => hp t (List.mem_cons_of_mem _ h)) (by omega)
def spThr : Sp := fun vs H Q _ => ∃ a ps l, vs = [.ref a] ∧ H a = some (.tup ps) ∧ Prs H ps l ∧ Fine l ∧
  ∀ H' t, Same H H' → H t = none → H' t = some (.tup ((expand l).map V.str)) → Q (.ref t) H'
section
variable {P : Program} {w : World} {K : PySem.W.Frag} {mg : Str → Option Value} {base : Heap}
def N_threads_of : List Str := ["stripes", "wrong", "shade", "many", "place"]
theorem sc_threads_of : FnScope N_threads_of ["stripes"] (defScope s_threads_of) := ⟨rfl, rfl, rfl, by decide +kernel, rfl, by decide +kernel, by decide +kernel⟩
theorem ok_threads_of (T : Txt K mg) : FnOk P w K mg base CX0 5 (ga K "threads_of") (fdOf K "threads_of") ["stripes"] spThr := by
  have G_first_wrong := ok_first_wrong (P := P) (w := w) (base := base) T
  refine T.F_threads_of.ok sc_threads_of (fun vs H Q E h => ?_) (fun cdv A outer s H vs Q E hr h => ?_)
  · obtain ⟨a, ps, l, rfl, _⟩ := h
    rfl
  · obtain ⟨a, ps, l, rfl, ha, hp, hf, hQ⟩ := h
    have hlen := hp.length
    have hl0 : ps.length ≠ 0 := fun e => hf.ne (List.eq_nil_of_length_eq_zero (by omega))
    refine ⟨_, PSs.nox (pss_cons (ps_if (PW.pt (pw_or (pt_not (pt_val (pe_callB call_isi (by rfl) T.f_isinstance (by decide +kernel) (pa_cons (pv 0) (pa_cons (pe_bltn (v := .ty "tuple") (by rfl) T.f_tuple (by decide +kernel) rfl) pa_nil))))) (pw_or1 (pt_cmpR op_eq (pe_callB call_len (by rfl) T.f_len (by decide +kernel) (pa_cons (pv 0) pa_nil)) pe_int (nomark _)))))
    (pss_one ps_never)
    pss_nil)
    (pss_cons (ps_set (i := 1) sc_threads_of.nd rfl (Or.inl rfl) (pe_call G_first_wrong (hr.mono (by decide)) (by rfl) T.g_first_wrong T.F_first_wrong.kp T.b_first_wrong .nil pass0 (pa_cons (pv 0) pa_nil)))
    (pss_cons (ps_if (pt_cmpR op_notN (pv 1) pe_non (nomark _))
    (pss_one ps_never)
    pss_nil)
    (pss_one (ps_ret (pe_callTy call_tuple_of (by rfl) T.f_tuple (by decide +kernel) (pa_cons (pe_lc2 (own := [("shade", 2), ("many", 3), ("place", 4)]) (g := gTup K 2 (gCons (gName 2) (gCons (gName 3) gNil))) (vs1 := [4]) rfl sc_threads_of.nd (pi_tup (pv 0)) (blkOk_by (own := [("shade", 2), ("many", 3), ("place", 4)]) (N := N_threads_of) (sc := defScope s_threads_of) (by decide +kernel)) (by decide) (fun _ _ _ _ _ => (pg_tup rfl (pgs_cons (pg_name (i := 2) sc_threads_of.nd rfl (Or.inl rfl)) (pgs_cons (pg_name (i := 3) sc_threads_of.nd rfl (Or.inl rfl)) pgs_nil)))) (fun _ _ _ _ _ => pts_nil) (fun _ _ _ _ _ => (pi_range1 (by rfl) T.f_range (pa_cons (pv 3) pa_nil))) (fun _ _ _ _ _ => (pg_name (i := 4) sc_threads_of.nd rfl (Or.inl rfl))) (fun _ _ _ _ _ => pts_nil) (fun _ _ _ _ _ => (pv 2))) pa_nil))))))), ?_⟩
    refine ⟨_, rfl, _, _, _, _, _, rfl, .ty _, .base (.tup ha), kit_ty (r := true) (by decide +kernel), _, rfl, iteF ?_⟩
    refine ⟨_, rfl, _, _, rfl, Or.inr ⟨_, SqT.of ha, rfl⟩, rfl, _, rfl, ?_⟩
    rw [show decide (V.int (ps.length : Nat) = V.int 0) = false from decide_eq_false fun h => hl0 (by
      have := V.int.inj h
      omega)]
    refine iteF ?_
    refine ⟨_, rfl, a, ps, rfl, ha, Prs.th2 hp fun s hs => isSh_len (hf.sh s hs), fun H1 s1 => ?_⟩
    rw [fw_good hp hf.sh hf.pos (by have := hf.most; omega)]
    refine ⟨_, rfl, rfl, _, rfl, iteF ?_⟩
    have ha1 := s1 _ _ ha
    have hp1 := hp.mono (Tups.of s1)
    refine ⟨_, rfl, a, rfl, ⟨_, SqT.of ha1⟩, fun D hD => lc2_it (walk_tup (xs := ps)) (fun i H' => LcAt H1 D H' ((expand (l.take i)).map V.str)) (LcAt.start hD) (fun i H2 _ hP => SqT.of (hP.same _ _ ha1)) (fun i x H0 H2 hi hP hy => ?_) fun H2 hP => ?_⟩
    · obtain ⟨rfl, hx1⟩ := hy
      obtain ⟨b, z, n, rfl, e2, e3⟩ := hp1.get hx1
      have e3' := hP.same _ _ e3
      have hn : n ≤ 240 := by
        have h1 := hf.most
        rw [← List.take_append_drop (i + 1) l, total_append, take_more e2, total_append, total_one] at h1
        omega
      refine ⟨b, _, rfl, SqT.of e3', rfl, _, _, rfl, _, _, rfl, rfl, rfl, ?_⟩
      refine ⟨_, rfl, (n : Int), rfl, by omega, by omega, ?_⟩
      refine lc_in (walk_range (lo := 0) (n := (n : Int).toNat)) (fun j H' => LcAt H1 D H' ((expand (l.take i) ++ List.replicate j z).map V.str)) ?_ (fun _ _ _ _ => True.intro) (fun j x H3 H4 hj hP3 hy => ?_) fun H3 hP3 => ?_
      · rw [List.replicate_zero, List.append_nil]
        exact hP
      · obtain ⟨rfl, rfl⟩ := hy
        refine ⟨rfl, _, rfl, _, hP3.it, ?_, ?_⟩
        · refine small ?_
          rw [List.length_map, List.length_append, List.length_replicate, expand_length]
          have h1 : total (l.take i) ≤ total l := by
            conv => rhs; rw [← List.take_append_drop i l, total_append]
            omega
          have := hf.most
          have hj' : j < n := by simpa using hj
          omega
        · have e5 : (expand (l.take i) ++ List.replicate (j + 1) z).map V.str = (expand (l.take i) ++ List.replicate j z).map V.str ++ [V.str z] := by
            rw [List.replicate_succ', ← List.append_assoc, List.map_append]
            rfl
          rw [e5]
          exact hP3.push (y := .str z)
      · rw [take_more e2, expand_append, expand_one]
        have e4 : (n : Int).toNat = n := by simp
        rw [e4] at hP3
        exact hP3
    · have q := hP.it
      rw [hlen, List.take_length] at q
      refine ⟨D, _, rfl, .inl ⟨SqL.of q, fun t ht => ?_⟩⟩
      refine hQ _ t ((s1.trans hP.same).trans (same_new ht)) ?_ upd_same
      exact Same.free (s1.trans hP.same) ht
end
end S11

namespace S11
open PySem PySem.Spec PyProof.Rows L2 L2.Own He Sl
theorem strs_of : ∀ {xs : List V}, xs.all shV = true → ∃ zs : List Str, xs = zs.map V.str ∧ ∀ z ∈ zs, isSh z = true
  | [], _ => ⟨[], rfl, fun _ h => nomatch h⟩
  | x :: xs, h => by
    rw [List.all_cons, Bool.and_eq_true] at h
    obtain ⟨zs, e, q⟩ := strs_of h.2
    cases x with
    | str z => exact ⟨z :: zs, by rw [e]; rfl, fun y hy => by
        rcases List.mem_cons.mp hy with r | r
        · rw [r]
          exact h.1
        · exact q y r⟩
    | _ => cases h.1
/-- threads that stand -/
structure FineT (zs : List Str) : Prop where
  ne : zs ≠ []
  sh : ∀ z ∈ zs, isSh z = true
  most : zs.length ≤ 240
theorem thrV_true {H : Hp} {v : V} (h : thrV H v = true) : ∃ a zs, v = .ref a ∧ H a = some (.tup (zs.map V.str)) ∧ FineT zs := by
  cases v with
  | ref a =>
    simp only [thrV] at h
    split at h
    · rename_i xs e
      unfold goodT at h
      rw [Bool.and_eq_true] at h
      obtain ⟨h1, h2⟩ := h
      have h1 := of_decide_eq_true h1
      obtain ⟨zs, rfl, q⟩ := strs_of h2
      rw [List.length_map] at h1
      exact ⟨a, zs, rfl, e, fun z => by rw [z] at h1; exact absurd h1.1 (by decide), q, h1.2⟩
    · cases h
  | _ => cases h
/-- stripes_of: the fewest stripes, or NoThreads -/
def spStr (K : PySem.W.Frag) : Sp := fun vs H Q E => ∃ v, vs = [v] ∧ Th2 H v ∧ (thrV H v = false → ∀ H', Same H H' → E (.ref (ga K "NoThreads")) none H') ∧
  (∀ a zs, v = .ref a → H a = some (.tup (zs.map V.str)) → FineT zs → ∀ H' t ps, Same H H' → H t = none → H' t = some (.tup ps) → Prs H' ps (groups zs) → Q (.ref t) H')
theorem last_at {α : Type} {xs : List α} {x : α} : atI (xs ++ [x]) (-1) = some x := atI_last xs x
theorem ixN_last {n : Nat} : ixN (n + 1) (-1) = some n := by
  unfold ixN
  rw [if_neg (by decide), if_pos (by omega)]
  congr 1
  omega
section
variable {P : Program} {w : World} {K : PySem.W.Frag} {mg : Str → Option Value} {base : Heap}
def N_stripes_of : List Str := ["threads", "stripes", "shade"]
theorem sc_stripes_of : FnScope N_stripes_of ["threads"] (defScope s_stripes_of) := ⟨rfl, rfl, rfl, by decide +kernel, rfl, by decide +kernel, by decide +kernel⟩
theorem ok_stripes_of (T : Txt K mg) : FnOk P w K mg base (L2.CX P w) 4 (ga K "stripes_of") (fdOf K "stripes_of") ["threads"] (spStr K) := by
  have G_are_threads := ok_are_threads (P := P) (w := w) (base := base) T
  refine T.F_stripes_of.ok sc_stripes_of (fun vs H Q E h => ?_) (fun cdv A outer s H vs Q E hr h => ?_)
  · obtain ⟨v, rfl, _⟩ := h
    rfl
  · obtain ⟨v, rfl, hv, hE, hQ⟩ := h
    refine ⟨_, (pss_cons (ps_if (pt_not (pt_val (pe_call G_are_threads (hr.mono (by decide)) (by rfl) T.g_are_threads T.F_are_threads.kp T.b_are_threads .nil pass0 (pa_cons (pv 0) pa_nil))))
    (pss_one (ps_raise rfl (takes_of rfl rfl rfl rfl) (pmk_own PySem.F.excBase_ValueError T.xc_NoThreads.1 T.c_NoThreads T.xc_NoThreads.2.1 (raises_own T.xc_NoThreads.2.2.1 T.xc_NoThreads.2.2.2) rfl)))
    pss_nil)
    (PSs.nox (pss_cons (ps_set (i := 1) sc_stripes_of.nd rfl (Or.inl rfl) (pe_lst pa_nil))
    (pss_cons (ps_for PassesOwn.never rfl (pi_tup (pv 0)) (pg_name (i := 2) sc_stripes_of.nd rfl (Or.inl rfl))
    (pss_one (ps_if (PW.pt (pw_and (pt_cmpR op_gt (pe_callB call_len (by rfl) T.f_len (by decide +kernel) (pa_cons (pv 1) pa_nil)) pe_int (nomark _)) (pw_and1 (pt_cmpR op_eq (pe_ix ix_tup (pe_ix ix_list (pv 1) (pe_un un_neg pe_int) (fun _ _ => rfl)) pe_int (fun _ _ => rfl)) (pv 2) (nomark _)))))
     (pss_one (ps_asg (pe_tup (pa_cons (pv 2) (pa_cons (pe_op op_add (pe_ix ix_tup (pe_ix ix_list (pv 1) (pe_un un_neg pe_int) (fun _ _ => rfl)) pe_int (fun _ _ => rfl)) pe_int) pa_nil))) (pg_sub (pv 1) (pe_un un_neg pe_int) set_list)))
     (pss_one (ps_expr (pe_bm PySem.F.plainAttrs_list PySem.F.slot_list_append PySem.F.type_list_append mt_append (pv 1) (pa_cons (pe_tup (pa_cons (pv 2) (pa_cons pe_int pa_nil))) pa_nil)))))))
    (pss_one (ps_ret (pe_callTy call_tuple_of (by rfl) T.f_tuple (by decide +kernel) (pa_cons (pv 1) pa_nil)))))))), ?_⟩
    refine ⟨_, rfl, v, rfl, hv, fun H1 s1 => ⟨_, rfl, ?_⟩⟩
    cases hT : thrV H v with
    | false =>
      refine iteT ?_
      exact hE hT H1 s1
    | true =>
      refine iteF ?_
      obtain ⟨a, zs, rfl, ha, hz⟩ := thrV_true hT
      have ha1 := s1 _ _ ha
      refine ⟨by decide, fun l hl => ?_⟩
      have ha2 : (upd H1 l (.lst [])) a = some (.tup (zs.map V.str)) := same_new hl _ _ ha1
      refine ⟨_, rfl, a, rfl, ⟨_, SqT.of ha2⟩, ?_⟩
      refine for_it (walk_tup (xs := zs.map V.str)) (fun i σ H' => ∃ u2 ps, σ = [some (.ref a), some (.ref l), u2] ∧ LcAt H1 l H' ps ∧ Prs H' ps (groups (zs.take i))) ⟨none, [], rfl, LcAt.start hl, True.intro⟩ (fun i σ H' _ hP => ?_) (fun i x σ H0 H2 hi hP hy => ?_) fun σ H2 hP => ?_
      · obtain ⟨u2, ps, rfl, hL, _⟩ := hP
        exact SqT.of (hL.same _ _ ha1)
      · obtain ⟨u2, ps, rfl, hL, hp⟩ := hP
        obtain ⟨rfl, hx⟩ := hy
        obtain ⟨z, hz1, rfl⟩ : ∃ z, zs[i]? = some z ∧ x = .str z := by
          rw [List.getElem?_map] at hx
          cases e : zs[i]? with
          | none =>
            rw [e] at hx
            cases hx
          | some z =>
            rw [e] at hx
            cases hx
            exact ⟨z, rfl, rfl⟩
        have hi' : i < zs.length := by simpa using hi
        have hgl : (groups (zs.take i)).length ≤ 240 := by
          have h1 := groups_length (zs.take i)
          rw [List.length_take] at h1
          have := hz.most
          omega
        have hpl := hp.length
        have hgr : groups (zs.take (i + 1)) = grow (groups (zs.take i)) z := by rw [take_more hz1, groups_snoc]
        -- one more stripe
        have more : ∀ t, H2 t = none → grow (groups (zs.take i)) z = groups (zs.take i) ++ [(z, 1)] → ∃ u2 qs, ([some (.ref a), some (.ref l), some (.str z)] : L2.St) = [some (.ref a), some (.ref l), u2] ∧ LcAt H1 l (upd (upd H2 t (.tup [.str z, .int 1])) l (.lst (ps ++ [.ref t]))) qs ∧ Prs (upd (upd H2 t (.tup [.str z, .int 1])) l (.lst (ps ++ [.ref t]))) qs (groups (zs.take (i + 1))) := fun t ht eg => by
          have hL2 := hL.keep (same_new (o := .tup [.str z, .int 1]) ht)
          refine ⟨_, _, rfl, hL2.to, ?_⟩
          rw [hgr, eg]
          exact Prs.mono (Tups.put hL2.it) (Prs.snoc (n := 1) upd_same (hp.mono (Tups.of (same_new ht))))
        refine ⟨_, rfl, _, _, rfl, Or.inl ⟨_, SqL.of hL.it, rfl⟩, _, _, rfl, rfl, _, rfl, ite2 (fun c => ?_) fun c => ?_⟩
        · have hne : groups (zs.take i) ≠ [] := fun e => by
            have h1 : (ps.length : Int) > 0 := of_decide_eq_true c
            rw [e] at hpl
            have h2 : ps.length = 0 := hpl
            omega
          obtain ⟨m, ⟨y, n⟩, em⟩ : ∃ m s, groups (zs.take i) = m ++ [s] := by
            rcases List.eq_nil_or_concat (groups (zs.take i)) with e | ⟨m, s, e⟩
            · exact absurd e hne
            · exact ⟨m, s, by rw [e]; simp⟩
          rw [em] at hp
          obtain ⟨qs, b, rfl, hq, hb⟩ := Prs.snoc_of hp
          refine ⟨_, rfl, _, rfl, l, _, _, _, rfl, rfl, SqL.of hL.it, last_at, b, _, _, _, rfl, rfl, SqT.of hb, rfl, _, rfl, rfl, _, rfl, ?_⟩
          have eg : grow (groups (zs.take i)) z = if y = z then m ++ [(z, n + 1)] else m ++ [(y, n)] ++ [(z, 1)] := by
            rw [em]
            unfold grow
            rw [List.getLast?_append]
            simp
          by_cases hyz : y = z
          · subst hyz
            rw [decide_eq_true rfl]
            refine iteT ?_
            rw [if_pos rfl] at eg
            refine ⟨_, rfl, _, rfl, _, rfl, l, _, _, _, rfl, rfl, SqL.of hL.it, last_at, b, _, _, _, rfl, rfl, SqT.of hb, rfl, _, _, rfl, rfl, (by show 2 ≤ sizeLine; decide), fun t ht => ?_⟩
            have hL2 := hL.keep (same_new (o := .tup [.str y, .int ((n : Int) + 1)]) ht)
            refine ⟨_, rfl, _, rfl, l, _, _, qs.length, rfl, rfl, hL2.it, ?_, ?_⟩
            · rw [List.length_append]
              exact ixN_last
            · refine ⟨_, _, rfl, hL2.to, ?_⟩
              rw [hgr, eg]
              refine Prs.mono (Tups.put hL2.it) ?_
              have e1 : (qs ++ [V.ref b]).set qs.length (.ref t) = qs ++ [.ref t] := by
                rw [List.set_append_right _ _ (Nat.le_refl _)]
                simp
              rw [e1]
              exact Prs.snoc (n := n + 1) (by rw [upd_same]; rfl) (hq.mono (Tups.of (same_new ht)))
          · rw [decide_eq_false (fun e => hyz (V.str.inj e))]
            refine iteF ?_
            rw [if_neg hyz, ← em] at eg
            refine ⟨_, rfl, Or.inl ⟨rfl, _, SqL.of hL.it⟩, _, rfl, (by show 2 ≤ sizeLine; decide), fun t ht => ?_⟩
            refine ⟨l, _, _, rfl, rfl, (hL.keep (same_new ht)).it, ?_, more t ht eg⟩
            exact small (by omega)
        · have hps : ps = [] := by
            cases ps with
            | nil => rfl
            | cons v r => exact absurd (decide_eq_true (by simp only [List.length_cons]; omega)) c
          have hg0 : groups (zs.take i) = [] := List.eq_nil_of_length_eq_zero (by rw [← hpl, hps]; rfl)
          refine ⟨_, rfl, Or.inl ⟨rfl, _, SqL.of hL.it⟩, _, rfl, (by show 2 ≤ sizeLine; decide), fun t ht => ?_⟩
          refine ⟨l, _, _, rfl, rfl, (hL.keep (same_new ht)).it, ?_, more t ht (by rw [hg0]; rfl)⟩
          exact small (by omega)
      · obtain ⟨u2, ps, rfl, hL, hp⟩ := hP
        refine ⟨_, rfl, l, ps, rfl, .inl ⟨SqL.of hL.it, fun t ht => ?_⟩⟩
        rw [List.length_map, List.take_length] at hp
        have s2 := s1.trans hL.same
        exact hQ a zs rfl ha hz _ t ps (s2.trans (same_new ht)) (Same.free s2 ht) upd_same (hp.mono (Tups.of (same_new ht)))
end
end S11

namespace S11
open PySem PySem.Spec PyProof.Rows L2 L2.Own He Sl
/-! ## spots, manners, rounds -/
def big : Int := 1000000000000000000000000000000
def spotV : V → Bool
  | .int n => decide (-big ≤ n ∧ n ≤ big)
  | _ => false
def manners : List Str := ["run", "pivot", "fold", "left", "right"]
def mannerV : V → Bool
  | .str z => manners.contains z
  | _ => false
def cutL {α : Type} (ws : List α) (lo hi : Option Int) : List α := (ws.drop (HT.sIx ws.length 0 lo)).take (HT.sIx ws.length ws.length hi - HT.sIx ws.length 0 lo)
theorem cutV_map (ws : List Str) (lo hi : Option Int) : cutV (ws.map V.str) lo hi = (cutL ws lo hi).map V.str := by
  unfold cutV cutL
  rw [List.length_map, ← List.map_drop, ← List.map_take]
theorem cutL_length {α : Type} (ws : List α) (lo hi : Option Int) : (cutL ws lo hi).length ≤ ws.length := by
  unfold cutL
  rw [List.length_take, List.length_drop]
  omega
theorem cutL_mem {α : Type} {ws : List α} {lo hi : Option Int} {x : α} (h : x ∈ cutL ws lo hi) : x ∈ ws := List.mem_of_mem_drop (List.mem_of_mem_take h)
theorem cutL_from {α : Type} (ws : List α) {k : Nat} (h : k ≤ ws.length) : cutL ws (some (k : Nat)) none = ws.drop k := by
  unfold cutL
  rw [HT.sIx_nat, HT.sIx_none, Nat.min_eq_left h]
  exact List.take_of_length_le (by rw [List.length_drop]; exact Nat.le_refl _)
theorem cutL_to {α : Type} (ws : List α) {k : Nat} (h : k ≤ ws.length) : cutL ws none (some (k : Nat)) = ws.take k := by
  unfold cutL
  rw [HT.sIx_nat, HT.sIx_none, Nat.min_eq_left h, List.drop_zero, Nat.sub_zero]
/-- what is told over and over -/
def laid (ws : List Str) (m : Str) : List Str :=
  if m = "pivot" then ws ++ (cutL ws (some 1) (some (-1))).reverse
  else if m = "fold" then ws ++ ws.reverse
  else if m = "left" then ws ++ (cutL ws (some 1) none).reverse
  else if m = "right" then ws ++ (cutL ws none (some (-1))).reverse
  else ws
theorem laid_mem {ws : List Str} {m z : Str} (h : z ∈ laid ws m) : z ∈ ws := by
  unfold laid at h
  split at h
  · rcases List.mem_append.mp h with q | q
    · exact q
    · exact cutL_mem (List.mem_reverse.mp q)
  · split at h
    · rcases List.mem_append.mp h with q | q
      · exact q
      · exact List.mem_reverse.mp q
    · split at h
      · rcases List.mem_append.mp h with q | q
        · exact q
        · exact cutL_mem (List.mem_reverse.mp q)
      · split at h
        · rcases List.mem_append.mp h with q | q
          · exact q
          · exact cutL_mem (List.mem_reverse.mp q)
        · exact h
theorem laid_length (ws : List Str) (m : Str) : ws.length ≤ (laid ws m).length ∧ (laid ws m).length ≤ 2 * ws.length := by
  have h1 := cutL_length ws (some 1) (some (-1))
  have h2 := cutL_length ws (some 1) none
  have h3 := cutL_length ws none (some (-1))
  unfold laid
  split
  · rw [List.length_append, List.length_reverse]; omega
  · split
    · rw [List.length_append, List.length_reverse]; omega
    · split
      · rw [List.length_append, List.length_reverse]; omega
      · split
        · rw [List.length_append, List.length_reverse]; omega
        · omega
def spSpot : Sp := fun vs H Q _ => ∃ v, vs = [v] ∧ Th H v ∧ Q (.bl (spotV v)) H
def InSpot (n : Int) : Prop := -big ≤ n ∧ n ≤ big
def spCheck : Sp := fun vs H Q _ => ∃ n : Int, vs = [.int n] ∧ InSpot n ∧ Q .non H
def spManner : Sp := fun vs H Q _ => ∃ v, vs = [v] ∧ Th H v ∧ Q (.bl (mannerV v)) H
def spLaid : Sp := fun vs H Q _ => ∃ (a : Addr) (ws : List Str) (m : Str), vs = [.ref a, .str m] ∧ H a = some (.tup (ws.map V.str)) ∧ ws.length ≤ 1000 ∧
  ∀ (H' : Hp) (r : Addr), Same H H' → H' r = some (.tup ((laid ws m).map V.str)) → Q (.ref r) H'
def spBegun : Sp := fun vs H Q _ => ∃ (a : Addr) (ws : List Str) (k : Nat), vs = [.ref a, .int (k : Nat)] ∧ H a = some (.tup (ws.map V.str)) ∧ k ≤ ws.length ∧ ws.length ≤ 60000 ∧
  ∀ (H' : Hp) (r : Addr), Same H H' → H' r = some (.tup ((rot ws k).map V.str)) → Q (.ref r) H'
def spRound : Sp := fun vs H Q _ => ∃ (a : Addr) (ws : List Str), vs = [.ref a] ∧ H a = some (.tup (ws.map V.str)) ∧ 0 < ws.length ∧ ws.length ≤ 60000 ∧ (∀ z ∈ ws, isSh z = true) ∧
  ∀ (H' : Hp) (r : Addr) (k : Nat), Least ws k → Same H H' → H' r = some (.tup ((ws.take k).map V.str)) → Q (.ref r) H'
def spShort : Sp := fun vs H Q _ => ∃ (a : Addr) (ws : List Str), vs = [.ref a] ∧ H a = some (.tup (ws.map V.str)) ∧ 0 < ws.length ∧ ws.length ≤ 60000 ∧ (∀ z ∈ ws, isSh z = true) ∧ (∀ k, Least ws k → k ≤ 240) ∧
  ∀ (H' : Hp) (r : Addr) (k : Nat), Least ws k → Same H H' → H' r = some (.tup ((ws.take k).map V.str)) → Q (.ref r) H'
section
variable {P : Program} {w : World} {K : PySem.W.Frag} {mg : Str → Option Value} {base : Heap}
def N_is_spot : List Str := ["thing"]
theorem sc_is_spot : FnScope N_is_spot ["thing"] (defScope s_is_spot) := ⟨rfl, rfl, rfl, by decide +kernel, rfl, by decide +kernel, by decide +kernel⟩
theorem ok_is_spot (T : Txt K mg) : FnOk P w K mg base CX0 3 (ga K "is_spot") (fdOf K "is_spot") ["thing"] spSpot := by
  have G_is_whole := ok_is_whole (P := P) (w := w) (base := base) T
  refine T.F_is_spot.ok sc_is_spot (fun vs H Q E h => ?_) (fun cdv A outer s H vs Q E hr h => ?_)
  · obtain ⟨v, rfl, _⟩ := h
    rfl
  · obtain ⟨v, rfl, hv, hQ⟩ := h
    refine ⟨_, PSs.nox (pss_one (ps_ret (pe_and (pe_call G_is_whole (hr.mono (by decide)) (by rfl) T.g_is_whole T.F_is_whole.kp T.b_is_whole .nil pass0 (pa_cons (pv 0) pa_nil)) (pe_one (pe_chain op_le op_le (pe_un un_neg (pe_glob (v := .int 1000000000000000000000000000000) rfl T.m_BIG.choose_spec ⟨_, rfl⟩)) (pv 0) (pe_glob (v := .int 1000000000000000000000000000000) rfl T.m_BIG.choose_spec ⟨_, rfl⟩)))))), ?_⟩
    refine ⟨_, rfl, v, rfl, hv, _, rfl, ite2 (fun c => ?_) fun c => ?_⟩
    · cases v with
      | int n =>
        refine ⟨_, rfl, _, rfl, _, _, rfl, rfl, _, rfl, ite2 (fun d => ?_) fun d => ?_⟩
        · refine ⟨_, _, rfl, rfl, ?_⟩
          have e : spotV (.int n) = decide (n ≤ 1000000000000000000000000000000) := by
            show decide (-big ≤ n ∧ n ≤ big) = _
            have d1 : (-1000000000000000000000000000000 : Int) ≤ n := of_decide_eq_true d
            rw [Bool.eq_iff_iff, decide_eq_true_iff, decide_eq_true_iff]
            exact ⟨fun h => h.2, fun h => ⟨d1, h⟩⟩
          rw [e] at hQ
          exact hQ
        · have e : spotV (.int n) = false := decide_eq_false fun h => d (decide_eq_true h.1)
          rw [e] at hQ
          exact hQ
      | _ => cases c
    · have e : spotV v = false := by
        cases v with
        | int n => exact absurd rfl c
        | _ => rfl
      rw [e] at hQ
      exact hQ
def N_check_spot : List Str := ["thing"]
theorem sc_check_spot : FnScope N_check_spot ["thing"] (defScope s_check_spot) := ⟨rfl, rfl, rfl, by decide +kernel, rfl, by decide +kernel, by decide +kernel⟩
theorem ok_check_spot (T : Txt K mg) : FnOk P w K mg base CX0 4 (ga K "check_spot") (fdOf K "check_spot") ["thing"] spCheck := by
  have G_is_spot := ok_is_spot (P := P) (w := w) (base := base) T
  refine T.F_check_spot.ok sc_check_spot (fun vs H Q E h => ?_) (fun cdv A outer s H vs Q E hr h => ?_)
  · obtain ⟨v, rfl, _⟩ := h
    rfl
  · obtain ⟨n, rfl, hn, hQ⟩ := h
    refine ⟨_, PSs.nox (pss_one (ps_if (pt_not (pt_val (pe_call G_is_spot (hr.mono (by decide)) (by rfl) T.g_is_spot T.F_is_spot.kp T.b_is_spot .nil pass0 (pa_cons (pv 0) pa_nil))))
    (pss_one ps_never)
    pss_nil)), ?_⟩
    refine ⟨_, rfl, .int n, rfl, .int n, _, rfl, ?_⟩
    rw [show spotV (.int n) = true from decide_eq_true hn]
    exact iteF hQ
def N_is_manner : List Str := ["thing"]
theorem sc_is_manner : FnScope N_is_manner ["thing"] (defScope s_is_manner) := ⟨rfl, rfl, rfl, by decide +kernel, rfl, by decide +kernel, by decide +kernel⟩
theorem ok_is_manner (T : Txt K mg) : FnOk P w K mg base CX0 2 (ga K "is_manner") (fdOf K "is_manner") ["thing"] spManner := by
  refine T.F_is_manner.ok sc_is_manner (fun vs H Q E h => ?_) (fun cdv A outer s H vs Q E hr h => ?_)
  · obtain ⟨v, rfl, _⟩ := h
    rfl
  · obtain ⟨v, rfl, hv, hQ⟩ := h
    obtain ⟨t, ty, k1, k2, k3, k4⟩ := Th.ty (K := K) hv
    refine ⟨_, PSs.nox (pss_one (ps_ret (pe_and (pe_callB call_isi (by rfl) T.f_isinstance (by decide +kernel) (pa_cons (pv 0) (pa_cons (pe_bltn (v := .ty "str") (by rfl) T.f_str (by decide +kernel) rfl) pa_nil))) (pe_one (pe_cmpR op_in_seq (pv 0) (pe_glob (v := .ref (ga K "MANNERS")) rfl T.c_MANNERS rfl) (by rfl)))))), ?_⟩
    refine ⟨_, rfl, _, _, _, _, _, rfl, .ty _, ty, kit_ty k1, _, rfl, ite2 (fun c => ?_) fun c => ?_⟩
    · cases v with
      | str z =>
        refine ⟨_, rfl, _, _, rfl, .inr (T.t_MANNERS H), rfl, rfl, ?_⟩
        have e : inV (.str z) [.str "run", .str "pivot", .str "fold", .str "left", .str "right"] = manners.contains z := inV_strs z manners
        show Q (.bl (inV (.str z) [.str "run", .str "pivot", .str "fold", .str "left", .str "right"])) H
        rw [e]
        exact hQ
      | _ => cases c
    · have e : mannerV v = false := by
        cases v with
        | str n => exact absurd rfl c
        | _ => rfl
      rw [e] at hQ
      exact hQ
def N_begun_at : List Str := ["threads", "place"]
theorem sc_begun_at : FnScope N_begun_at ["threads", "place"] (defScope s_begun_at) := ⟨rfl, rfl, rfl, by decide +kernel, rfl, by decide +kernel, by decide +kernel⟩
theorem ok_begun_at (T : Txt K mg) : FnOk P w K mg base CX0 2 (ga K "begun_at") (fdOf K "begun_at") ["threads", "place"] spBegun := by
  refine T.F_begun_at.ok sc_begun_at (fun vs H Q E h => ?_) (fun cdv A outer s H vs Q E hr h => ?_)
  · obtain ⟨a, ws, k, rfl, _⟩ := h
    rfl
  · obtain ⟨a, ws, k, rfl, ha, hk, hl, hQ⟩ := h
    refine ⟨_, PSs.nox (pss_one (ps_ret (pe_op op_catA (pe_slice sl_tupA (pv 0) (po_some (pv 1)) po_none) (pe_slice sl_tupA (pv 0) po_none (po_some (pv 1)))))), ?_⟩
    refine ⟨_, rfl, _, rfl, _, rfl, ?_⟩
    dsimp only [tNoPart]
    refine slA_of (K := K) ha fun H1 r1 S1 h1 => ?_
    rw [cutV_map, cutL_from ws hk] at h1
    refine ⟨_, rfl, _, rfl, _, rfl, slA_of (S1 _ _ ha) fun H2 r2 S2 h2 => ?_⟩
    rw [cutV_map, cutL_to ws hk] at h2
    refine catA_of (S2 _ _ h1) h2 ?_ fun H3 r3 S3 h3 => ?_
    · rw [List.length_map, List.length_map, List.length_drop, List.length_take]
      exact smallE (by omega)
    · rw [← List.map_append] at h3
      exact hQ H3 r3 ((S1.trans S2).trans S3) h3
def N_laid_out : List Str := ["threads", "manner"]
theorem sc_laid_out : FnScope N_laid_out ["threads", "manner"] (defScope s_laid_out) := ⟨rfl, rfl, rfl, by decide +kernel, rfl, by decide +kernel, by decide +kernel⟩
theorem ok_laid_out (T : Txt K mg) : FnOk P w K mg base CX0 2 (ga K "laid_out") (fdOf K "laid_out") ["threads", "manner"] spLaid := by
  refine T.F_laid_out.ok sc_laid_out (fun vs H Q E h => ?_) (fun cdv A outer s H vs Q E hr h => ?_)
  · obtain ⟨a, ws, k, rfl, _⟩ := h
    rfl
  · obtain ⟨a, ws, m, rfl, ha, hl, hQ⟩ := h
    -- behind a slice and its turning
    have fin : ∀ {H1 : Hp} {r1 : Addr} {us : List Str}, Same H H1 → H1 r1 = some (.tup (us.map V.str)) → us.length ≤ 1000 → laid ws m = ws ++ us.reverse → ∀ p, H1 p = none → rCatA K (.ref a) (.ref p) (upd H1 p (.tup (us.map V.str).reverse)) Q := fun {H1 r1 us} S1 h1 hu e p hp => by
      refine catA_of (same_new hp _ _ (S1 _ _ ha)) upd_same ?_ fun H3 r3 S3 h3 => ?_
      · rw [List.length_map, List.length_reverse, List.length_map]
        exact smallE (by omega)
      · rw [← List.map_reverse, ← List.map_append, ← e] at h3
        exact hQ H3 r3 ((S1.trans (same_new hp)).trans S3) h3
    have hc : ∀ lo hi, (cutL ws lo hi).length ≤ 1000 := fun lo hi => Nat.le_trans (cutL_length ws lo hi) hl
    refine ⟨_, PSs.nox (pss_cons (ps_if (pt_cmpR op_eq (pv 1) pe_str (nomark _))
    (pss_one (ps_ret (pe_op op_catA (pv 0) (pe_revT (pe_slice sl_tupA (pv 0) (po_some pe_int) (po_some (pe_un un_neg pe_int)))))))
    pss_nil)
    (pss_cons (ps_if (pt_cmpR op_eq (pv 1) pe_str (nomark _))
    (pss_one (ps_ret (pe_op op_catA (pv 0) (pe_revT (pv 0)))))
    pss_nil)
    (pss_cons (ps_if (pt_cmpR op_eq (pv 1) pe_str (nomark _))
    (pss_one (ps_ret (pe_op op_catA (pv 0) (pe_revT (pe_slice sl_tupA (pv 0) (po_some pe_int) po_none)))))
    pss_nil)
    (pss_cons (ps_if (pt_cmpR op_eq (pv 1) pe_str (nomark _))
    (pss_one (ps_ret (pe_op op_catA (pv 0) (pe_revT (pe_slice sl_tupA (pv 0) po_none (po_some (pe_un un_neg pe_int)))))))
    pss_nil)
    (pss_one (ps_ret (pv 0))))))), ?_⟩
    refine ⟨_, rfl, rfl, _, rfl, ite2 (fun c => ?_) fun c => ?_⟩
    · have c' : m = "pivot" := V.str.inj (of_decide_eq_true c)
      refine ⟨_, rfl, _, rfl, _, rfl, _, rfl, _, rfl, slA_of ha fun H1 r1 S1 h1 => ?_⟩
      rw [cutV_map] at h1
      exact ⟨r1, _, rfl, SqT.of h1, fin S1 h1 (hc _ _) (by unfold laid; rw [if_pos c'])⟩
    have c1 : ¬ m = "pivot" := fun h => c (decide_eq_true (congrArg V.str h))
    refine ⟨_, rfl, rfl, _, rfl, ite2 (fun c => ?_) fun c => ?_⟩
    · have c' : m = "fold" := V.str.inj (of_decide_eq_true c)
      exact ⟨_, rfl, _, rfl, a, _, rfl, SqT.of ha, fin (Same.refl H) ha hl (by unfold laid; rw [if_neg c1, if_pos c'])⟩
    have c2 : ¬ m = "fold" := fun h => c (decide_eq_true (congrArg V.str h))
    refine ⟨_, rfl, rfl, _, rfl, ite2 (fun c => ?_) fun c => ?_⟩
    · have c' : m = "left" := V.str.inj (of_decide_eq_true c)
      refine ⟨_, rfl, _, rfl, _, rfl, ?_⟩
      dsimp only [tNoPart]
      refine slA_of (K := K) ha fun H1 r1 S1 h1 => ?_
      rw [cutV_map] at h1
      exact ⟨r1, _, rfl, SqT.of h1, fin S1 h1 (hc _ _) (by unfold laid; rw [if_neg c1, if_neg c2, if_pos c'])⟩
    have c3 : ¬ m = "left" := fun h => c (decide_eq_true (congrArg V.str h))
    refine ⟨_, rfl, rfl, _, rfl, ite2 (fun c => ?_) fun c => ?_⟩
    · have c' : m = "right" := V.str.inj (of_decide_eq_true c)
      refine ⟨_, rfl, _, rfl, _, rfl, _, rfl, slA_of ha fun H1 r1 S1 h1 => ?_⟩
      rw [cutV_map] at h1
      exact ⟨r1, _, rfl, SqT.of h1, fin S1 h1 (hc _ _) (by unfold laid; rw [if_neg c1, if_neg c2, if_neg c3, if_pos c'])⟩
    have c4 : ¬ m = "right" := fun h => c (decide_eq_true (congrArg V.str h))
    refine ⟨_, rfl, hQ H a (Same.refl H) ?_⟩
    unfold laid
    rw [if_neg c1, if_neg c2, if_neg c3, if_neg c4]
    exact ha
end
end S11

namespace S11
open PySem PySem.Spec PyProof.Rows L2 L2.Own He Sl
section
variable {P : Program} {w : World} {K : PySem.W.Frag} {mg : Str → Option Value} {base : Heap}
def N_least_round : List Str := ["threads", "size"]
theorem sc_least_round : FnScope N_least_round ["threads"] (defScope s_least_round) := ⟨rfl, rfl, rfl, by decide +kernel, rfl, by decide +kernel, by decide +kernel⟩
theorem ok_least_round (T : Txt K mg) : FnOk P w K mg base CX0 3 (ga K "least_round") (fdOf K "least_round") ["threads"] spRound := by
  have G_begun_at := ok_begun_at (P := P) (w := w) (base := base) T
  refine T.F_least_round.ok sc_least_round (fun vs H Q E h => ?_) (fun cdv A outer s H vs Q E hr h => ?_)
  · obtain ⟨a, ws, rfl, _⟩ := h
    rfl
  · obtain ⟨a, ws, rfl, ha, h0, hl, hsh, hQ⟩ := h
    refine ⟨_, PSs.nox (pss_cons (ps_set (i := 1) sc_least_round.nd rfl (Or.inl rfl) pe_int)
    (pss_cons (ps_while PassesOwn.never (PW.pt (pw_or (pt_cmpR op_ne (pe_op op_mod (pe_callB call_len (by rfl) T.f_len (by decide +kernel) (pa_cons (pv 0) pa_nil)) (pv 1)) pe_int (nomark _)) (pw_or1 (pt_cmpR (op_neD hr.units) (pe_call G_begun_at (hr.mono (by decide)) (by rfl) T.g_begun_at T.F_begun_at.kp T.b_begun_at .nil pass0 (pa_cons (pv 0) (pa_cons (pv 1) pa_nil))) (pv 0) (nomark _)))))
    (pss_one (ps_aug (i := 1) sc_least_round.nd rfl (Or.inl rfl) pe_int ip_add)))
    (pss_one (ps_ret (pe_slice sl_tupA (pv 0) po_none (po_some (pv 1))))))), ?_⟩
    refine ⟨fun m σ H' => ∃ k : Nat, σ = [some (.ref a), some (.int (k : Nat))] ∧ Same H H' ∧ 0 < k ∧ k ≤ ws.length ∧ (∀ j, 0 < j → j < k → rot ws j ≠ ws) ∧ m = ws.length - k, ⟨_, 1, rfl, Same.refl H, by decide, h0, fun j j0 j1 => by omega, rfl⟩, fun m σ H1 hW => ?_⟩
    obtain ⟨k, rfl, S1, k0, k1, hno, rfl⟩ := hW
    have ha1 := S1 _ _ ha
    have hml : (ws.map V.str).length = ws.length := List.length_map ..
    -- one size more
    have more : ∀ {H2 : Hp}, Same H1 H2 → rot ws k ≠ ws → k < ws.length → ∃ W : L2.St → Hp → Prop, (∀ σ H', W σ H' → ∃ m', m' < ws.length - k ∧ ∃ k : Nat, σ = [some (.ref a), some (.int (k : Nat))] ∧ Same H H' ∧ 0 < k ∧ k ≤ ws.length ∧ (∀ j, 0 < j → j < k → rot ws j ≠ ws) ∧ m' = ws.length - k) ∧ W [some (.ref a), some (.int ((k : Nat) + 1 : Int))] H2 := fun {H2} S2 e hlt =>
      ⟨fun σ H' => σ = [some (.ref a), some (.int ((k : Nat) + 1 : Int))] ∧ Same H H', fun σ H' hN => by
        obtain ⟨rfl, SN⟩ := hN
        exact ⟨ws.length - (k + 1), by omega, k + 1, rfl, SN, by omega, hlt, fun j j0 j1 => by
          by_cases ej : j = k
          · rw [ej]; exact e
          · exact hno j j0 (by omega), rfl⟩, rfl, S1.trans S2⟩
    have hlt : rot ws k ≠ ws → k < ws.length := fun e => by
      rcases Nat.lt_or_ge k ws.length with q | q
      · exact q
      · exfalso
        have : k = ws.length := by omega
        subst this
        exact e (by unfold rot; rw [List.drop_length, List.take_length, List.nil_append])
    refine ⟨_, rfl, _, _, rfl, Or.inr ⟨_, SqT.of ha1, rfl⟩, _, rfl, _, _, rfl, rfl, (by show (0 : Int) < ((k : Nat) : Int); omega), rfl, _, rfl, ite2 (fun c => ?_) fun c => ?_⟩
    · have hm : ws.length % k ≠ 0 := fun e => by
        refine nd_ne c (congrArg V.int ?_)
        rw [hml, ← Int.natCast_emod, e]
        rfl
      have e : rot ws k ≠ ws := fun e => hm (Least.dvd ⟨k0, k1, e, hno⟩)
      refine iteT ?_
      obtain ⟨W, w1, w2⟩ := more (Same.refl H1) e (hlt e)
      exact ⟨W, w1, _, rfl, _, _, rfl, rfl, w2⟩
    refine ⟨_, rfl, _, rfl, a, ws, k, rfl, ha1, k1, hl, fun H2 r S2 hr2 => ?_⟩
    have hrs : ∀ z ∈ rot ws k, isSh z = true := fun z hz => by
      unfold rot at hz
      rcases List.mem_append.mp hz with q | q
      · exact hsh z (List.mem_of_mem_drop q)
      · exact hsh z (List.mem_of_mem_take q)
    refine ⟨_, rfl, .tuple ((rot ws k).map PyData.str), .tuple (ws.map PyData.str), .tup (SqT.of hr2) (dp_strs _ _ _), .tup (SqT.of (S2 _ _ ha1)) (dp_strs _ _ _), shaped_strsT hrs, shaped_strsT hsh, _, rfl, ?_⟩
    rw [eqv_tups]
    by_cases e : rot ws k = ws
    · rw [decide_eq_true e]
      refine iteF ?_
      refine ⟨_, rfl, _, rfl, _, rfl, slA_of (S2 _ _ ha1) fun H3 r3 S3 h3 => ?_⟩
      rw [cutV_map, cutL_to ws k1] at h3
      exact hQ H3 r3 k ⟨k0, k1, e, hno⟩ ((S1.trans S2).trans S3) h3
    · rw [decide_eq_false e]
      refine iteT ?_
      obtain ⟨W, w1, w2⟩ := more S2 e (hlt e)
      exact ⟨W, w1, _, rfl, _, _, rfl, rfl, w2⟩
/- slots: 0 threads, 1 one_round -/
def N_short_round : List Str := ["threads", "one_round"]
theorem sc_short_round : FnScope N_short_round ["threads"] (defScope s_short_round) := ⟨rfl, rfl, rfl, by decide +kernel, rfl, by decide +kernel, by decide +kernel⟩
theorem ok_short_round (T : Txt K mg) : FnOk P w K mg base CX0 4 (ga K "short_round") (fdOf K "short_round") ["threads"] (spShort) := by
  have G_least_round := ok_least_round (P := P) (w := w) (base := base) T
  refine T.F_short_round.ok sc_short_round (fun vs H Q E h => ?_) (fun cdv A outer s H vs Q E hr h => ?_)
  · obtain ⟨a, ws, rfl, _⟩ := h
    rfl
  · obtain ⟨a, ws, rfl, ha, h0, hl, hsh, hk, hQ⟩ := h
    refine ⟨_, PSs.nox (pss_cons (ps_set (i := 1) sc_short_round.nd rfl (Or.inl rfl) (pe_call G_least_round (hr.mono (by decide)) (by rfl) T.g_least_round T.F_least_round.kp T.b_least_round .nil pass0 (pa_cons (pv 0) pa_nil)))
    (pss_cons (ps_if (pt_cmpR op_gt (pe_callB call_len (by rfl) T.f_len (by decide +kernel) (pa_cons (pv 1) pa_nil)) (pe_glob (v := .int 240) rfl T.m_MOST_THREADS.choose_spec ⟨_, rfl⟩) (nomark _))
    (pss_one ps_never)
    pss_nil)
    (pss_one (ps_ret (pv 1))))), ?_⟩
    refine ⟨_, rfl, a, ws, rfl, ha, h0, hl, hsh, fun H1 r k hL S1 h1 => ?_⟩
    have hk' := hk k hL
    have hlen : (ws.take k).length = k := by rw [List.length_take]; have := hL.le; omega
    refine ⟨_, rfl, _, _, rfl, Or.inr ⟨_, SqT.of h1, rfl⟩, _, _, rfl, rfl, _, rfl, ?_⟩
    rw [decide_eq_false (by rw [List.length_map, hlen]; omega)]
    exact iteF ⟨_, rfl, hQ H1 r k hL S1 h1⟩
end
/-! ## rows -/
/-- a row as it stands in the heap -/
def RowAt (K : PySem.W.Frag) (H : Hp) (a : Addr) (r : List Str) : Prop := RowOk r ∧ ∃ dx t, H a = some (.ins (ga K "Row") dx [("one_round", .ref t)]) ∧ H t = some (.tup (r.map V.str))
theorem RowAt.same {K : PySem.W.Frag} {H H' : Hp} {a : Addr} {r : List Str} (h : RowAt K H a r) (s : Same H H') : RowAt K H' a r := let ⟨h1, dx, t, h2, h3⟩ := h; ⟨h1, dx, t, s _ _ h2, s _ _ h3⟩
/-- the threads from spot 0 on of the row told by ws, a manner and a start -/
def told (ws : List Str) (st : Int) (r : List Str) : Prop := RowOk r ∧ ∀ s, at_ r s = at_ ws (s + st)
def spInit (K : PySem.W.Frag) : Sp := fun vs H Q _ => ∃ (x t : Addr) (m : Str) (st : Int) (dx : Addr) (ps : List V) (l : List (Str × Nat)), vs = [.ref x, .ref t, .str m, .int st] ∧ H x = some (.ins (ga K "Row") dx []) ∧ H t = some (.tup ps) ∧ Prs H ps l ∧ Fine l ∧
  manners.contains m = true ∧ InSpot st ∧ (∀ k, Least (laid (expand l) m) k → k ≤ 240) ∧
  ∀ (H' : Hp) (r : List Str), told (laid (expand l) m) st r → (∀ b o, b ≠ x → H b = some o → H' b = some o) → RowAt K H' x r → Q .non H'
def spAt (K : PySem.W.Frag) : Sp := fun vs H Q _ => ∃ (a : Addr) (r : List Str) (n : Int), vs = [.ref a, .int n] ∧ RowAt K H a r ∧ InSpot n ∧ Q (.str (at_ r n)) H
def spThreads (K : PySem.W.Frag) : Sp := fun vs H Q _ => ∃ (a : Addr) (r : List Str), vs = [.ref a] ∧ RowAt K H a r ∧ ∀ t, H t = some (.tup (r.map V.str)) → Q (.ref t) H
def spLen (K : PySem.W.Frag) : Sp := fun vs H Q _ => ∃ (a : Addr) (r : List Str), vs = [.ref a] ∧ RowAt K H a r ∧ Q (.int (r.length : Nat)) H
def spAlike (K : PySem.W.Frag) : Sp := fun vs H Q _ => ∃ (a b : Addr) (r q : List Str), vs = [.ref a, .ref b] ∧ RowAt K H a r ∧ RowAt K H b q ∧ Q (.bl (decide (r = q))) H
def spMoved (K : PySem.W.Frag) : Sp := fun vs H Q _ => ∃ (a : Addr) (r : List Str) (n : Int), vs = [.ref a, .int n] ∧ RowAt K H a r ∧ InSpot n ∧
  ∀ (H' : Hp) (b : Addr) (q : List Str), (RowOk q ∧ ∀ s, at_ q s = at_ r (s - n)) → Same H H' → H b = none → RowAt K H' b q → Q (.ref b) H'
def spTurned (K : PySem.W.Frag) : Sp := fun vs H Q _ => ∃ (a : Addr) (r : List Str), vs = [.ref a] ∧ RowAt K H a r ∧
  ∀ (H' : Hp) (b : Addr) (q : List Str), (RowOk q ∧ ∀ s, at_ q s = at_ r (-s)) → Same H H' → H b = none → RowAt K H' b q → Q (.ref b) H'
section
variable {P : Program} {w : World} {K : PySem.W.Frag} {mg : Str → Option Value} {base : Heap}
def N_Row___init__ : List Str := ["self", "stripes", "manner", "start", "threads", "one_round"]
theorem sc_Row___init__ : FnScope N_Row___init__ ["self", "stripes", "manner", "start"] (defScope s_Row___init__) := ⟨rfl, rfl, rfl, by decide +kernel, rfl, by decide +kernel, by decide +kernel⟩
theorem ok_Row___init__ (T : Txt K mg) : FnOk P w K mg base CX0 6 (ma K (ga K "Row") "__init__") (fdAt K (ma K (ga K "Row") "__init__")) ["self", "stripes", "manner", "start"] (spInit K) := by
  have G_threads_of := ok_threads_of (P := P) (w := w) (base := base) T
  have G_is_manner := ok_is_manner (P := P) (w := w) (base := base) T
  have G_check_spot := ok_check_spot (P := P) (w := w) (base := base) T
  have G_short_round := ok_short_round (P := P) (w := w) (base := base) T
  have G_laid_out := ok_laid_out (P := P) (w := w) (base := base) T
  have G_begun_at := ok_begun_at (P := P) (w := w) (base := base) T
  refine T.F_Row___init__.ok sc_Row___init__ (fun vs H Q E h => ?_) (fun cdv A outer s H vs Q E hr h => ?_)
  · obtain ⟨x, t, m, st, dx, ps, l, rfl, _⟩ := h
    rfl
  · obtain ⟨x, t, m, st, dx, ps, l, rfl, hx, ht, hp, hf, hm, hst, hk, hQ⟩ := h
    have hexl := expand_length l
    have hmost := hf.most
    have hpos : 0 < (expand l).length := by
      have h1 := hf.pos.length_le
      have h2 : 0 < l.length := List.length_pos_iff.mpr hf.ne
      omega
    have hexs : ∀ z ∈ expand l, isSh z = true := fun z hz => by
      obtain ⟨n, hn⟩ := expand_mem hz
      exact hf.sh _ hn
    have hlaid := laid_length (expand l) m
    refine ⟨_, PSs.nox (pss_cons (ps_set (i := 4) sc_Row___init__.nd rfl (Or.inl rfl) (pe_call G_threads_of (hr.mono (by decide)) (by rfl) T.g_threads_of T.F_threads_of.kp T.b_threads_of .nil pass0 (pa_cons (pv 1) pa_nil)))
    (pss_cons (ps_if (pt_not (pt_val (pe_call G_is_manner (hr.mono (by decide)) (by rfl) T.g_is_manner T.F_is_manner.kp T.b_is_manner .nil pass0 (pa_cons (pv 2) pa_nil))))
    (pss_one ps_never)
    pss_nil)
    (pss_cons (ps_expr (pe_call G_check_spot (hr.mono (by decide)) (by rfl) T.g_check_spot T.F_check_spot.kp T.b_check_spot .nil pass0 (pa_cons (pv 3) pa_nil)))
    (pss_cons (ps_set (i := 5) sc_Row___init__.nd rfl (Or.inl rfl) (pe_call G_short_round (hr.mono (by decide)) (by rfl) T.g_short_round T.F_short_round.kp T.b_short_round .nil pass0 (pa_cons (pe_call G_laid_out (hr.mono (by decide)) (by rfl) T.g_laid_out T.F_laid_out.kp T.b_laid_out .nil pass0 (pa_cons (pv 4) (pa_cons (pv 2) pa_nil))) pa_nil)))
    (pss_one (ps_fld (pv 0) (pe_call G_begun_at (hr.mono (by decide)) (by rfl) T.g_begun_at T.F_begun_at.kp T.b_begun_at .nil pass0 (pa_cons (pv 5) (pa_cons (pe_op op_mod (pv 3) (pe_callB call_len (by rfl) T.f_len (by decide +kernel) (pa_cons (pv 5) pa_nil))) pa_nil))) rfl)))))), ?_⟩
    refine ⟨_, rfl, t, ps, l, rfl, ht, hp, hf, fun H1 t1 S1 ht1 ht1' => ?_⟩
    refine ⟨_, rfl, .str m, rfl, .str m ?_, _, rfl, ?_⟩
    · have : ∀ z ∈ manners, z.cps.size ≤ sizeLine := by decide +kernel
      exact this m (by simpa using hm)
    rw [show mannerV (.str m) = true from hm]
    refine iteF ?_
    refine ⟨_, rfl, st, rfl, hst, ?_⟩
    refine ⟨_, rfl, _, rfl, t1, expand l, m, rfl, ht1', by omega, fun H2 r2 S2 h2 => ?_⟩
    refine ⟨r2, laid (expand l) m, rfl, h2, by omega, by omega, fun z hz => hexs z (laid_mem hz), hk, fun H3 r3 k hL S3 h3 => ?_⟩
    have hk' := hk k hL
    have hlen : ((laid (expand l) m).take k).length = k := by rw [List.length_take]; have := hL.le; omega
    have hR := hL.rowOk (fun z hz => hexs z (laid_mem hz)) hk'
    have hkp := hL.pos
    have hmod := emod_in st hkp
    refine ⟨_, rfl, _, rfl, _, rfl, _, _, rfl, Or.inr ⟨_, SqT.of h3, rfl⟩, _, _, rfl, rfl, ?_, r3, (laid (expand l) m).take k, (st % (k : Nat)).toNat, ?_, h3, by omega, by omega, fun H4 r4 S4 h4 => ?_⟩
    · show (0 : Int) < ((((laid (expand l) m).take k).map V.str).length : Nat)
      rw [List.length_map, hlen]
      omega
    · show [V.ref r3, V.int (st % ((((laid (expand l) m).take k).map V.str).length : Nat))] ++ [] = _
      rw [List.length_map, hlen, Int.toNat_of_nonneg hmod.1]
      rfl
    have SA := ((S1.trans S2).trans S3).trans S4
    refine ⟨_, rfl, x, _, dx, _, rfl, SA _ _ hx, T.cl_Row, T.nf_Row_one_round, by decide, ?_⟩
    refine hQ _ (rot ((laid (expand l) m).take k) (st % (k : Nat)).toNat) ⟨hR.rot (by omega), fun s => ?_⟩ (fun b o nb hb => ?_) ⟨hR.rot (by omega), dx, r4, ?_, ?_⟩
    · rw [at_rot (by omega), hL.at, Int.toNat_of_nonneg hmod.1]
      have hper := (rot_iff hL.le).mp hL.eq
      rw [← hper.mod (s + st % (k : Nat)), ← hper.mod (s + st), Int.add_emod_emod]
    · rw [upd_ne nb]
      exact SA _ _ hb
    · rw [upd_same]
      rfl
    · rw [upd_ne (fun e => by rw [e, SA _ _ hx] at h4; cases h4)]
      exact h4
end
end S11

namespace S11
open PySem PySem.Spec PyProof.Rows L2 L2.Own He Sl
theorem at_reverse {r : List Str} (h : 0 < r.length) (s : Int) : at_ r.reverse s = at_ r (-1 - s) := by
  obtain ⟨h0, h1⟩ := emod_in s h
  have g := at_get (ws := r.reverse) (by rw [List.length_reverse]; exact h) s
  rw [List.length_reverse, List.getElem?_reverse (by omega), at_nat (by omega)] at g
  have e := Option.some.inj g
  rw [← e, ← at_mod (-1 - s)]
  congr 1
  have e1 : ((r.length - 1 - (s % (r.length : Nat)).toNat : Nat) : Int) = (r.length : Nat) - 1 - s % (r.length : Nat) := by omega
  have e2 : (-1 - s) % (r.length : Nat) = ((r.length : Nat) - 1 - s % (r.length : Nat)) % (r.length : Nat) := by
    rw [show ((r.length : Nat) - 1 - s % (r.length : Nat) : Int) = (-1 - s % (r.length : Nat)) + (r.length : Nat) by omega, Int.add_emod_right, Int.sub_emod_emod]
  rw [e1, e2]
  exact (Int.emod_eq_of_lt (by omega) (by omega)).symm
theorem row_fine {r : List Str} (h : RowOk r) : FineT r := ⟨fun e => by have := h.ne; rw [e] at this; exact absurd this (by decide), h.sh, h.most⟩
theorem fine_groups {zs : List Str} (hz : FineT zs) : Fine (groups zs) := by
  have h1 := groups_total zs
  have h2 := hz.most
  exact ⟨groups_nonempty hz.ne, fun s hs => hz.sh _ (groups_mem hs), groups_pos zs, by omega⟩
theorem laid_run (ws : List Str) : laid ws "run" = ws := by
  unfold laid
  rw [if_neg (by decide +kernel), if_neg (by decide +kernel), if_neg (by decide +kernel), if_neg (by decide +kernel)]
theorem fine_th2 {H : Hp} {a : Addr} {zs : List Str} (ha : H a = some (.tup (zs.map V.str))) (hz : FineT zs) : Th2 H (.ref a) ∧ thrV H (.ref a) = true := by
  refine ⟨⟨.tup ha, fun c xs e hc x hx => ?_⟩, ?_⟩
  · cases e
    rw [ha] at hc
    cases hc
    obtain ⟨z, hzm, rfl⟩ := List.mem_map.mp hx
    exact .str z (isSh_len (hz.sh z hzm))
  · rw [thrV_tup ha]
    unfold goodT
    have h1 : 0 < zs.length := List.length_pos_iff.mpr hz.ne
    rw [Bool.and_eq_true]
    refine ⟨decide_eq_true ?_, ?_⟩
    · rw [List.length_map]
      exact ⟨h1, hz.most⟩
    · rw [List.all_map, List.all_eq_true]
      exact fun z hzm => hz.sh z hzm
theorem tup_strs {H : Hp} {a : Addr} {as bs : List Str} (h1 : H a = some (.tup (as.map V.str))) (h2 : H a = some (.tup (bs.map V.str))) : as = bs := by
  rw [h1] at h2
  exact (List.map_inj_right (fun _ _ h => V.str.inj h)).mp (HO.tup.inj (Option.some.inj h2))
theorem inSpot_neg {n : Int} (h : InSpot n) : InSpot (-n) := by
  obtain ⟨h1, h2⟩ := h
  exact ⟨by omega, by omega⟩
section
variable {P : Program} {w : World} {K : PySem.W.Frag} {mg : Str → Option Value} {base : Heap}
def N_Row_at : List Str := ["self", "spot"]
theorem sc_Row_at : FnScope N_Row_at ["self", "spot"] (defScope s_Row_at) := ⟨rfl, rfl, rfl, by decide +kernel, rfl, by decide +kernel, by decide +kernel⟩
theorem ok_Row_at (T : Txt K mg) : FnOk P w K mg base CX0 5 (ma K (ga K "Row") "at") (fdAt K (ma K (ga K "Row") "at")) ["self", "spot"] (spAt K) := by
  have G_check_spot := ok_check_spot (P := P) (w := w) (base := base) T
  refine T.F_Row_at.ok sc_Row_at (fun vs H Q E h => ?_) (fun cdv A outer s H vs Q E hr h => ?_)
  · obtain ⟨a, r, n, rfl, _⟩ := h
    rfl
  · obtain ⟨a, r, n, rfl, ⟨hR, dx, t, ha, ht⟩, hn, hQ⟩ := h
    refine ⟨_, PSs.nox (pss_cons (ps_expr (pe_call G_check_spot (hr.mono (by decide)) (by rfl) T.g_check_spot T.F_check_spot.kp T.b_check_spot .nil pass0 (pa_cons (pv 1) pa_nil)))
    (pss_one (ps_ret (pe_ix ix_tup (pe_fld (pv 0) rfl) (pe_op op_mod (pv 1) (pe_callB call_len (by rfl) T.f_len (by decide +kernel) (pa_cons (pe_fld (pv 0) rfl) pa_nil))) (fun _ _ => rfl))))), ?_⟩
    have hl := hR.ne
    refine ⟨_, rfl, n, rfl, hn, ?_⟩
    refine ⟨_, rfl, a, _, dx, _, _, rfl, ha, T.cl_Row, T.nf_Row_one_round, rfl, _, rfl, _, rfl, a, _, dx, _, _, rfl, ha, T.cl_Row, T.nf_Row_one_round, rfl, _, _, rfl, Or.inr ⟨_, SqT.of ht, rfl⟩, _, _, rfl, rfl, ?_, t, _, _, _, rfl, rfl, SqT.of ht, ?_, hQ⟩
    · show (0 : Int) < ((r.map V.str).length : Nat)
      rw [List.length_map]
      omega
    · obtain ⟨h0, h1⟩ := emod_in n hl
      have g := at_get hl n
      have g2 : (r.map V.str)[(n % (r.length : Nat)).toNat]? = some (.str (at_ r n)) := by
        rw [List.getElem?_map, g]
        rfl
      have g3 := atI_nat g2
      rw [Int.toNat_of_nonneg h0] at g3
      show atI (r.map V.str) (n % ((r.map V.str).length : Nat)) = _
      rw [List.length_map]
      exact g3
def N_Row_threads : List Str := ["self"]
theorem sc_Row_threads : FnScope N_Row_threads ["self"] (defScope s_Row_threads) := ⟨rfl, rfl, rfl, by decide +kernel, rfl, by decide +kernel, by decide +kernel⟩
theorem ok_Row_threads (T : Txt K mg) : FnOk P w K mg base CX0 2 (ma K (ga K "Row") "threads") (fdAt K (ma K (ga K "Row") "threads")) ["self"] (spThreads K) := by
  refine T.F_Row_threads.ok sc_Row_threads (fun vs H Q E h => ?_) (fun cdv A outer s H vs Q E hr h => ?_)
  · obtain ⟨a, r, rfl, _⟩ := h
    rfl
  · obtain ⟨a, r, rfl, ⟨hR, dx, t, ha, ht⟩, hQ⟩ := h
    refine ⟨_, PSs.nox (pss_one (ps_ret (pe_fld (pv 0) rfl))), ?_⟩
    exact ⟨_, rfl, a, _, dx, _, _, rfl, ha, T.cl_Row, T.nf_Row_one_round, rfl, hQ t ht⟩
def N_Row___len__ : List Str := ["self"]
theorem sc_Row___len__ : FnScope N_Row___len__ ["self"] (defScope s_Row___len__) := ⟨rfl, rfl, rfl, by decide +kernel, rfl, by decide +kernel, by decide +kernel⟩
theorem ok_Row___len__ (T : Txt K mg) : FnOk P w K mg base CX0 2 (ma K (ga K "Row") "__len__") (fdAt K (ma K (ga K "Row") "__len__")) ["self"] (spLen K) := by
  refine T.F_Row___len__.ok sc_Row___len__ (fun vs H Q E h => ?_) (fun cdv A outer s H vs Q E hr h => ?_)
  · obtain ⟨a, r, rfl, _⟩ := h
    rfl
  · obtain ⟨a, r, rfl, ⟨hR, dx, t, ha, ht⟩, hQ⟩ := h
    refine ⟨_, PSs.nox (pss_one (ps_ret (pe_callB call_len (by rfl) T.f_len (by decide +kernel) (pa_cons (pe_fld (pv 0) rfl) pa_nil)))), ?_⟩
    refine ⟨_, rfl, a, _, dx, _, _, rfl, ha, T.cl_Row, T.nf_Row_one_round, rfl, _, _, rfl, Or.inr ⟨_, SqT.of ht, rfl⟩, ?_⟩
    rw [List.length_map]
    exact hQ
def N_Row_alike : List Str := ["self", "other"]
theorem sc_Row_alike : FnScope N_Row_alike ["self", "other"] (defScope s_Row_alike) := ⟨rfl, rfl, rfl, by decide +kernel, rfl, by decide +kernel, by decide +kernel⟩
theorem ok_Row_alike (T : Txt K mg) : FnOk P w K mg base CX0 2 (ma K (ga K "Row") "alike") (fdAt K (ma K (ga K "Row") "alike")) ["self", "other"] (spAlike K) := by
  refine T.F_Row_alike.ok sc_Row_alike (fun vs H Q E h => ?_) (fun cdv A outer s H vs Q E hr h => ?_)
  · obtain ⟨a, b, r, q, rfl, _⟩ := h
    rfl
  · obtain ⟨a, b, r, q, rfl, ⟨hR, dx, t, ha, ht⟩, ⟨hR2, dx2, t2, hb, ht2⟩, hQ⟩ := h
    refine ⟨_, PSs.nox (pss_one (ps_ret (pe_cmpR (op_eqD hr.units) (pe_fld (pv 0) rfl) (pe_fld (pv 1) rfl) (nomark _)))), ?_⟩
    refine ⟨_, rfl, a, _, dx, _, _, rfl, ha, T.cl_Row, T.nf_Row_one_round, rfl, _, rfl, b, _, dx2, _, _, rfl, hb, T.cl_Row, T.nf_Row_one_round, rfl, .tuple (r.map PyData.str), .tuple (q.map PyData.str), .tup (SqT.of ht) (dp_strs _ _ _), .tup (SqT.of ht2) (dp_strs _ _ _), shaped_strsT hR.sh, shaped_strsT hR2.sh, ?_⟩
    rw [eqv_tups]
    exact hQ
def N_Row_moved : List Str := ["self", "by"]
theorem sc_Row_moved : FnScope N_Row_moved ["self", "by"] (defScope s_Row_moved) := ⟨rfl, rfl, rfl, by decide +kernel, rfl, by decide +kernel, by decide +kernel⟩
theorem ok_Row_moved (T : Txt K mg) : FnOk P w K mg base CX0 8 (ma K (ga K "Row") "moved") (fdAt K (ma K (ga K "Row") "moved")) ["self", "by"] (spMoved K) := by
  have G_check_spot := ok_check_spot (P := P) (w := w) (base := base) T
  have G_stripes_of := ok_stripes_of (P := P) (w := w) (base := base) T
  have G_Row___init__ := ok_Row___init__ (P := P) (w := w) (base := base) T
  obtain ⟨ds4, b4_Row___init__⟩ := T.b4_Row___init__
  refine T.F_Row_moved.ok sc_Row_moved (fun vs H Q E h => ?_) (fun cdv A outer s H vs Q E hr h => ?_)
  · obtain ⟨a, r, n, rfl, _⟩ := h
    rfl
  · obtain ⟨a, r, n, rfl, ⟨hR, dx, t, ha, ht⟩, hn, hQ⟩ := h
    refine ⟨_, PSs.nox (pss_cons (ps_expr (pe_call G_check_spot (hr.mono (by decide)) (by rfl) T.g_check_spot T.F_check_spot.kp T.b_check_spot .nil pass0 (pa_cons (pv 1) pa_nil)))
    (pss_one (ps_ret (pe_make T.mk_Row G_Row___init__ (hr.mono (by decide)) (by rfl) T.c_Row b4_Row___init__.2 b4_Row___init__.1 pass0 (pa_cons (pe_call G_stripes_of (hr.mono (by decide)) (by rfl) T.g_stripes_of T.F_stripes_of.kp T.b_stripes_of .nil passL (pa_cons (pe_fld (pv 0) rfl) pa_nil)) (pa_cons pe_str (pa_cons (pe_un un_neg (pv 1)) pa_nil))))))), ?_⟩
    refine ⟨_, rfl, n, rfl, hn, ?_⟩
    obtain ⟨w1, w2⟩ := fine_th2 ht (row_fine hR)
    refine ⟨_, rfl, a, _, dx, _, _, rfl, ha, T.cl_Row, T.nf_Row_one_round, rfl, .ref t, rfl, w1, (fun h => by rw [w2] at h; cases h), fun b ys e hb _ H1 t1 ps S1 ht1 ht1' hps => ?_⟩
    cases e
    have ey := tup_strs ht hb
    subst ey
    refine ⟨_, rfl, _, rfl, fun x dx2 hx hdx2 ne => ?_⟩
    have S2 : Same H1 (upd (upd H1 dx2 (.own x)) x (.ins (ga K "Row") dx2 [])) := (same_new hdx2).trans (same_new (by rw [upd_ne (Ne.symm ne)]; exact hx))
    refine ⟨x, t1, "run", -n, dx2, ps, groups r, rfl, upd_same, S2 _ _ ht1', hps.mono (Tups.of S2), fine_groups (row_fine hR), by decide +kernel, inSpot_neg hn, fun k hk => ?_, fun H2 q hq pres hrow => ⟨rfl, ?_⟩⟩
    · rw [groups_expand, laid_run] at hk
      exact Nat.le_trans hk.le hR.most
    · rw [groups_expand, laid_run] at hq
      refine hQ H2 x q ⟨hq.1, fun s => hq.2 s⟩ (fun b o hb => ?_) (Same.free S1 hx) hrow
      have h1 := S1 _ _ hb
      exact pres b o (fun e => by rw [e, hx] at h1; cases h1) (S2 _ _ h1)
end
end S11

namespace S11
open PySem PySem.Spec PyProof.Rows L2 L2.Own He Sl
/-- the one begun elsewhere is the other -/
def Turn (r q : List Str) : Prop := ∃ k, k < r.length ∧ rot r k = q
theorem rot_rot {r : List Str} {m j : Nat} (hm : m ≤ r.length) (hj : j ≤ r.length) (h : 0 < r.length) : rot (rot r m) j = rot r ((m + j) % r.length) := by
  have hlt : (m + j) % r.length < r.length := Nat.mod_lt _ h
  refine at_ext (by rw [Sl.rot_length, Sl.rot_length, Sl.rot_length]) fun i hi => ?_
  rw [at_rot (by rw [Sl.rot_length]; exact hj), at_rot hm, at_rot (by omega)]
  have hp := at_per r
  rw [← hp.mod ((i : Nat) + (j : Nat) + (m : Nat)), ← hp.mod ((i : Nat) + ((m + j) % r.length : Nat))]
  congr 1
  rw [Int.natCast_emod, Int.add_emod_emod]
  congr 1
  omega
theorem Turn.symm {r q : List Str} (h : Turn r q) : Turn q r := by
  obtain ⟨k, hk, rfl⟩ := h
  refine ⟨(r.length - k) % r.length, by rw [Sl.rot_length]; exact Nat.mod_lt _ (by omega), ?_⟩
  have hlt : (r.length - k) % r.length < r.length := Nat.mod_lt _ (by omega)
  rw [rot_rot (by omega) (by omega) (by omega)]
  have e : (k + (r.length - k) % r.length) % r.length = 0 := by
    rw [Nat.add_mod_mod, show k + (r.length - k) = r.length by omega, Nat.mod_self]
  rw [e]
  unfold rot
  rw [List.drop_zero, List.take_zero, List.append_nil]
def wordsL : List Str := ["run", "row", "fold", "left", "warp", "weft", "none", "put"]
theorem words_at {d : Int} (h0 : 0 ≤ d) (h1 : d < 8) : ∃ y, atI (wordsL.map V.str) d = some (.str y) ∧ isSh (cutS y none (some 3)) = true ∧ y.length ≤ sizeLine := by
  have key : ∀ y ∈ wordsL, isSh (cutS y none (some 3)) = true ∧ y.length ≤ 10 := by decide +kernel
  have hd : d.toNat < wordsL.length := by
    show d.toNat < 8
    omega
  have e : wordsL[d.toNat]? = some wordsL[d.toNat] := List.getElem?_eq_getElem hd
  have k := key _ (List.mem_of_getElem? e)
  refine ⟨_, ?_, k.1, smallE (by omega)⟩
  have e2 : (wordsL.map V.str)[d.toNat]? = some (.str wordsL[d.toNat]) := by
    rw [List.getElem?_map, e]
    rfl
  have := atI_nat e2
  rw [Int.toNat_of_nonneg h0] at this
  exact this
/-- shades from which one is taken -/
def some_ (z : Str) : List Str := z :: (abc.map (fun c => cutS z none (some 1) ++ ⟨#[c]⟩) ++ abc.map fun c => (⟨#[c]⟩ : Str) ++ ⟨#[c]⟩)
theorem some_sh {z y : Str} (h : isSh z = true) (hy : y ∈ some_ z) : isSh y = true := by
  have hc : ∀ c ∈ abc, 97 ≤ c ∧ c ≤ 122 := fun c hc => by
    obtain ⟨i, hi, e⟩ := List.mem_iff_getElem.mp hc
    exact abc_get (i := i) (by rw [List.getElem?_eq_getElem hi, e])
  rcases List.mem_cons.mp hy with q | q
  · rw [q]
    exact h
  · rcases List.mem_append.mp q with q | q
    · obtain ⟨c, h1, rfl⟩ := List.mem_map.mp q
      have hs := cut_size z 1
      have e1 : (⟨#[c]⟩ : Str).cps.size = 1 := rfl
      refine isSh_of (low_append (cut_low (low_of h) _ _) (low_one (hc c h1))) ?_ ?_
      · rw [size_append, e1]
        omega
      · rw [size_append, e1]
        show (cutS z none (some ((1 : Nat) : Int))).cps.size + 1 ≤ 3
        omega
    · obtain ⟨c, h1, rfl⟩ := List.mem_map.mp q
      exact isSh_of (low_append (low_one (hc c h1)) (low_one (hc c h1))) (by rw [size_append]; show 1 ≤ 1 + 1; decide) (by rw [size_append]; show 1 + 1 ≤ 3; decide)
theorem doubles_nodup : (abc.map fun c => (⟨#[c]⟩ : Str) ++ ⟨#[c]⟩).Nodup := by decide +kernel
/-- where there are few, one more is there -/
theorem some_new {z : Str} {zs : List Str} (h : zs.length ≤ 20) : (some_ z).filter (fun y => !zs.contains y) ≠ [] := fun e => by
  have hs : ∀ x ∈ (abc.map fun c => (⟨#[c]⟩ : Str) ++ ⟨#[c]⟩), x ∈ zs := fun x hx => by
    have hm : x ∈ some_ z := List.mem_cons_of_mem _ (List.mem_append_right _ hx)
    by_cases hz : x ∈ zs
    · exact hz
    · have : x ∈ (some_ z).filter (fun y => !zs.contains y) := List.mem_filter.mpr ⟨hm, by simp [hz]⟩
      rw [e] at this
      cases this
  have q := pigeon doubles_nodup hs
  have hl : (abc.map fun c => (⟨#[c]⟩ : Str) ++ ⟨#[c]⟩).length = 26 := by decide +kernel
  omega

theorem joinL_nil : ∀ parts : List (List Nat), TL.joinL [] parts = parts.flatten
  | [] => rfl
  | [p] => by simp [TL.joinL]
  | p :: q :: r => by
    show p ++ ([] ++ TL.joinL [] (q :: r)) = _
    rw [joinL_nil (q :: r), List.nil_append]
    rfl
theorem join_signs (cs : List Nat) : (Txt.join (Str.ofString "") (cs.map fun c => (⟨#[c]⟩ : Str))).cps.toList = cs := by
  have e : TL.tl (Str.ofString "") = [] := by decide +kernel
  show TL.tl (Txt.join (Str.ofString "") (cs.map fun c => (⟨#[c]⟩ : Str))) = cs
  rw [TL.join_eq, TL.tl_join, e, joinL_nil, List.map_map]
  induction cs with
  | nil => rfl
  | cons c cs ih =>
    rw [List.map_cons, List.flatten_cons, ih]
    rfl
theorem Prs.append {H : Hp} : ∀ {vs us : List V} {l m : List (Str × Nat)}, Prs H vs l → Prs H us m → Prs H (vs ++ us) (l ++ m)
  | [], _, [], _, _, h => h
  | [], _, _ :: _, _, h, _ => h.elim
  | _ :: _, _, [], _, h, _ => h.elim
  | v :: vs, us, s :: l, m, ⟨q, r⟩, h => ⟨q, Prs.append r h⟩
theorem Prs.rep {H : Hp} {vs : List V} {l : List (Str × Nat)} (h : Prs H vs l) : ∀ n, Prs H (List.replicate n vs).flatten (List.replicate n l).flatten
  | 0 => True.intro
  | n + 1 => by
    rw [List.replicate_succ, List.replicate_succ, List.flatten_cons, List.flatten_cons]
    exact Prs.append h (Prs.rep h n)
theorem total_rep (l : List (Str × Nat)) : ∀ n, total (List.replicate n l).flatten = n * total l
  | 0 => by simp [total]
  | n + 1 => by
    rw [List.replicate_succ, List.flatten_cons, total_append, total_rep l n, Nat.succ_mul]
    omega
theorem total_le {k : Nat} : ∀ {m : List (Str × Nat)}, (∀ s ∈ m, s.2 ≤ k) → total m ≤ m.length * k
  | [], _ => Nat.zero_le _
  | s :: m, h => by
    have h1 := h s List.mem_cons_self
    have h2 := total_le (m := m) fun t ht => h t (List.mem_cons_of_mem _ ht)
    show s.2 + total m ≤ (m.length + 1) * k
    rw [Nat.succ_mul]
    omega
theorem strs_at {zs : List Str} {d : Int} (h0 : 0 ≤ d) (h1 : d < zs.length) : ∃ z, atI (zs.map V.str) d = some (.str z) ∧ z ∈ zs := by
  have hd : d.toNat < zs.length := by omega
  have e : zs[d.toNat]? = some zs[d.toNat] := List.getElem?_eq_getElem hd
  refine ⟨_, ?_, List.mem_of_getElem? e⟩
  have e2 : (zs.map V.str)[d.toNat]? = some (.str zs[d.toNat]) := by
    rw [List.getElem?_map, e]
    rfl
  have := atI_nat e2
  rw [Int.toNat_of_nonneg h0] at this
  exact this
theorem rep_one' (n : Nat) (x : V) : (List.replicate n [x]).flatten = List.replicate n x := by
  induction n with
  | zero => rfl
  | succ n ih => rw [List.replicate_succ, List.flatten_cons, ih]; rfl
theorem take_more' {l : List (Str × Nat)} {i : Nat} {s : Str × Nat} (e : l[i]? = some s) : l.take (i + 1) = l.take i ++ [s] := by
  rw [List.take_succ, e]
  rfl
theorem total_take' (l : List (Str × Nat)) (i : Nat) : total (l.take i) ≤ total l := by
  have h := total_append (l.take i) (l.drop i)
  rw [List.take_append_drop] at h
  omega
theorem total_one' (s : Str × Nat) : total [s] = s.2 := by simp [total]
theorem expand_one' (s : Str × Nat) : expand [s] = List.replicate s.2 s.1 := by simp [expand]
theorem expand_shade {m : List (Str × Nat)} (h : ∀ s ∈ m, isSh s.1 = true) : ∀ z ∈ expand m, isSh z = true := fun z hz => by
  unfold expand at hz
  obtain ⟨s, hs, hz⟩ := List.mem_flatMap.mp hz
  rw [List.eq_of_mem_replicate hz]
  exact h s hs
/-- a lone thread is the same row in every manner -/
theorem laid_lone (z : Str) (m : Str) (s : Int) : at_ [z] s = at_ (laid [z] m) s := by
  have key : ∀ us : List Str, 0 < us.length → (∀ u ∈ us, u = z) → at_ us s = z := fun us h0 h => h _ (at_mem h0 s)
  rw [key [z] Nat.zero_lt_one (fun u hu => List.mem_singleton.mp hu), key (laid [z] m) (by have := (laid_length [z] m).1; have e : [z].length = 1 := rfl; omega) fun u hu => List.mem_singleton.mp (laid_mem hu)]
theorem rep_rot {ws : List Str} {k m : Nat} (hk : k ≤ ws.length) (e : (List.replicate (m + 1) (ws.take k)).flatten = ws) : rot ws k = ws := by
  have hu : (ws.take k).length = k := by rw [List.length_take]; omega
  generalize hu' : ws.take k = u at *
  have e1 : ws = u ++ (List.replicate m u).flatten := by rw [← e, List.replicate_succ, List.flatten_cons]
  have e2 : ws = (List.replicate m u).flatten ++ u := by rw [← e, List.replicate_succ', List.flatten_append, List.flatten_singleton]
  unfold rot
  rw [hu']
  have e3 : ws.drop k = (List.replicate m u).flatten := by rw [e1, ← hu, List.drop_left]
  rw [e3]
  exact e2.symm
theorem Least.rep {ws : List Str} {k : Nat} (h : Least ws k) : ∀ j, j * k ≤ ws.length → (List.replicate j (ws.take k)).flatten = ws.take (j * k)
  | 0, _ => by rw [Nat.zero_mul]; rfl
  | j + 1, hj => by
    have hn := h.le
    have hj' : j * k + k ≤ ws.length := by rw [Nat.succ_mul] at hj; exact hj
    have hk : Per (at_ ws) k := (rot_iff hn).mp h.eq
    have hr : rot ws (j * k) = ws := (rot_iff (by omega)).mpr fun s => by
      have := hk.mul (j : Nat) s
      rw [← Int.natCast_mul] at this
      exact this
    rw [List.replicate_succ', List.flatten_append, List.flatten_singleton, Least.rep h j (by omega), Nat.succ_mul, List.take_add]
    congr 1
    have h2 : (rot ws (j * k)).take k = ws.take k := by rw [hr]
    unfold rot at h2
    rw [List.take_append_of_le_length (by rw [List.length_drop]; omega)] at h2
    exact h2.symm
theorem at_range {n : Nat} {f : Int → Str} {i : Nat} (hi : i < n) : at_ ((List.range n).map fun j => f (j : Nat)) (i : Nat) = f (i : Nat) := by
  have hl : ((List.range n).map fun j => f (j : Nat)).length = n := by rw [List.length_map, List.length_range]
  have h := at_nat (ws := (List.range n).map fun j => f (j : Nat)) (i := i) (by rw [hl]; exact hi)
  rw [List.getElem?_map, List.getElem?_range hi] at h
  exact (Option.some.inj h).symm
theorem at_spun {n : Nat} {f : Int → Str} (h0 : 0 < n) (hf : Per f n) (s : Int) : at_ ((List.range n).map fun j => f (j : Nat)) s = f s := by
  have hl : ((List.range n).map fun j => f (j : Nat)).length = n := by rw [List.length_map, List.length_range]
  obtain ⟨h1, h2⟩ := emod_in s h0
  rw [← at_mod, hl, ← hf.mod s]
  have := at_range (n := n) (f := f) (i := (s % (n : Nat)).toNat) (by omega)
  rw [Int.toNat_of_nonneg h1] at this
  exact this
theorem rows_len {r q : List Str} (hr : RowOk r) (hq : RowOk q) (h1 : Per (at_ q) r.length) (h2 : Per (at_ r) q.length) : r.length = q.length := by
  have a := hr.ne
  have b := hq.ne
  rcases Nat.lt_trichotomy r.length q.length with h | h | h
  · exact absurd ((rot_iff (by omega)).mpr h1) (hq.least _ a h)
  · exact h
  · exact absurd ((rot_iff (by omega)).mpr h2) (hr.least _ b h)
theorem spun_eq {r q : List Str} {f : Int → Str} (hr : RowOk r) (hq : RowOk q) (hf : ∀ s, at_ q s = f s) (h1 : Per f r.length) (h2 : Per (at_ r) q.length) : ((List.range r.length).map fun j => f (j : Nat)) = q := by
  have e := rows_len hr hq (fun s => by rw [hf, hf]; exact h1 s) h2
  refine at_ext (by rw [List.length_map, List.length_range, e]) fun i hi => ?_
  rw [List.length_map, List.length_range] at hi
  rw [at_range hi, hf]
theorem spun_shift {r q : List Str} {st : Int} (hr : RowOk r) (hq : RowOk q) (hf : ∀ s, at_ q s = at_ r (s + st)) : ((List.range r.length).map fun j => at_ r ((j : Nat) + st)) = q := by
  refine spun_eq (f := fun s => at_ r (s + st)) hr hq hf (fun s => ?_) fun s => ?_
  · show at_ r (s + (r.length : Nat) + st) = at_ r (s + st)
    rw [show s + (r.length : Nat) + st = s + st + (r.length : Nat) by omega]
    exact at_per r _
  · have e1 := hf (s + (q.length : Nat) - st)
    have e2 := hf (s - st)
    have e3 := at_per q (s - st)
    rw [show s + (q.length : Nat) - st = s - st + (q.length : Nat) by omega, e3, e2] at e1
    rw [show s - st + st = s by omega, show s - st + (q.length : Nat) + st = s + (q.length : Nat) by omega] at e1
    exact e1.symm
theorem spun_turn {r q : List Str} (hr : RowOk r) (hq : RowOk q) (hf : ∀ s, at_ q s = at_ r (-s)) : ((List.range r.length).map fun j => at_ r (0 - (j : Nat))) = q := by
  refine spun_eq (f := fun s => at_ r (0 - s)) hr hq (fun s => by rw [hf, show -s = 0 - s by omega]) (fun s => ?_) fun s => ?_
  · have e := at_per r (0 - (s + (r.length : Nat)))
    rw [show 0 - (s + (r.length : Nat)) + (r.length : Nat) = 0 - s by omega] at e
    exact e.symm
  · have e1 := hf (-(s + (q.length : Nat)))
    have e2 := hf (-s)
    have e3 := at_per q (-(s + (q.length : Nat)))
    rw [show -(s + (q.length : Nat)) + (q.length : Nat) = -s by omega, e1, e2] at e3
    rw [show - -s = s by omega, show - -(s + (q.length : Nat)) = s + (q.length : Nat) by omega] at e3
    exact e3.symm
theorem ix_at {ws : List Str} (h : 0 < ws.length) (s : Int) : atI (ws.map V.str) (s % (ws.length : Nat)) = some (.str (at_ ws s)) := by
  obtain ⟨h1, h2⟩ := emod_in s h
  have e2 : (ws.map V.str)[(s % (ws.length : Nat)).toNat]? = some (.str (at_ ws s)) := by
    rw [List.getElem?_map, at_get h]
    rfl
  have := atI_nat e2
  rw [Int.toNat_of_nonneg h1] at this
  exact this
theorem range_more (n : Nat) (f : Int → Str) : (((List.range (n + 1)).map fun j => f (j : Nat)).map V.str) = (((List.range n).map fun j => f (j : Nat)).map V.str) ++ [.str (f (n : Nat))] := by
  rw [List.range_succ, List.map_append, List.map_append]
  rfl
theorem expand_ones : ∀ r : List Str, expand (r.map fun z => (z, 1)) = r
  | [] => rfl
  | z :: r => by
    show List.replicate 1 z ++ expand (r.map fun z => (z, 1)) = z :: r
    rw [expand_ones r]
    rfl
theorem move_iff {r q : List Str} {k : Nat} (h0 : 0 < q.length) (hl : r.length = q.length) (hk : k ≤ q.length) : (∀ i : Nat, i < q.length → at_ q (i : Nat) = at_ r ((i : Nat) - (k : Nat))) ↔ rot q k = r := by
  constructor
  · intro h
    have hf : Per (fun s => at_ r (s - (k : Nat))) q.length := fun s => by
      show at_ r (s + (q.length : Nat) - (k : Nat)) = at_ r (s - (k : Nat))
      rw [show s + (q.length : Nat) - (k : Nat) = s - (k : Nat) + (r.length : Nat) by omega]
      exact at_per r _
    have ha : ∀ s, at_ q s = at_ r (s - (k : Nat)) := fun s => by
      obtain ⟨h1, h2⟩ := emod_in s h0
      have e := h (s % (q.length : Nat)).toNat (by omega)
      rw [Int.toNat_of_nonneg h1, at_mod] at e
      rw [e]
      exact hf.mod s
    refine at_ext (by rw [Sl.rot_length, hl]) fun i hi => ?_
    rw [at_rot hk, ha, show (i : Int) + (k : Nat) - (k : Nat) = (i : Nat) by omega]
  · intro e i hi
    rw [← e, at_rot hk, show (i : Int) - (k : Nat) + (k : Nat) = (i : Nat) by omega]
theorem ixN_of {n : Nat} {d : Int} (h0 : 0 ≤ d) (h1 : d < n) : ixN n d = some d.toNat := by
  unfold ixN
  rw [if_pos (by omega), if_pos (by omega)]
theorem notFirst_self (K : PySem.W.Frag) (C : Addr) : PySem.W.notFirst K C (.ref C) = true := by
  unfold PySem.W.notFirst
  simp
theorem turn_of_rot {r q : List Str} {k : Nat} (hk : k < q.length) (e : rot q k = r) : Turn q r := ⟨k, hk, e⟩
theorem moved_is {r q x : List Str} {k : Nat} {n : Int} (hq : RowOk q) (hx : RowOk x) (hk : k ≤ q.length) (e : rot q k = r) (hxat : ∀ s, at_ x s = at_ r (s - ((k : Nat) + (r.length : Nat) * n))) : x = q := by
  refine RowOk.unique hx hq fun s => ?_
  rw [hxat]
  have h1 := (at_per r).mul (-n) (s - (k : Nat))
  rw [show s - (k : Nat) + -n * (r.length : Nat) = s - ((k : Nat) + (r.length : Nat) * n) by rw [Int.neg_mul, Int.mul_comm n]; omega] at h1
  rw [h1, ← e, at_rot hk, show s - (k : Nat) + (k : Nat) = s by omega]
theorem least_same {r q : List Str} {k j : Nat} (ek : rot q k = r) (hk : ∀ i, i < k → rot q i ≠ r) (ej : rot q j = r) (hj : ∀ i, i < j → rot q i ≠ r) : j = k := by
  rcases Nat.lt_trichotomy j k with h | h | h
  · exact absurd ej (hk j h)
  · exact h
  · exact absurd ek (hj k h)
theorem back_due {r q : List Str} (hr : RowOk r) {k j : Nat} (hk : k < q.length) (ek : rot q k = r) (hj : j < r.length) (ej : rot r j = q) : (j + k) % r.length = 0 := by
  have hl : q.length = r.length := by rw [← ej, Sl.rot_length]
  have h0 := hr.ne
  have e : rot r ((j + k) % r.length) = r := by
    rw [← rot_rot (by omega) (by omega) h0, ej, ek]
  rcases Nat.eq_zero_or_pos ((j + k) % r.length) with h | h
  · exact h
  · exact absurd e (hr.least _ h (Nat.mod_lt _ h0))
theorem one_more {r q x : List Str} {k : Nat} (hr : RowOk r) (h1 : r.length ≠ 1) (hk : k ≤ q.length) (e : rot q k = r) (hxat : ∀ s, at_ x s = at_ r (s - ((k : Nat) + 1))) : x ≠ q := fun hx => by
  have h0 := hr.ne
  refine hr.least 1 (by decide) (by omega) ((rot_iff (by omega)).mpr fun s => ?_)
  have a := hxat (s + (k : Nat) + 1)
  rw [hx, show s + (k : Nat) + 1 - ((k : Nat) + 1) = s by omega] at a
  have b := at_rot hk (s + 1)
  rw [e, show s + 1 + (k : Nat) = s + (k : Nat) + 1 by omega, a] at b
  exact b
theorem dvp {i j : Int} (h0 : 0 < j) (h1 : j < 10000000000000000000000000000000000000000) : CDivP i j := by
  refine ⟨h0, ?_⟩
  have hj : ¬ (j == 0) = true := by simpa using (show j ≠ 0 by omega)
  have h2 : (10000000000000000000000000000000000000000 : Nat) < 2 ^ 140 := by decide
  have hl : j.natAbs.log2 < 140 := (Nat.log2_lt (by omega)).mpr (by omega)
  show (decide ((if j == 0 then 0 else j.natAbs.log2 / 30 + 1) > 300) && _) = false
  rw [if_neg hj, decide_eq_false (by omega), Bool.false_and]
theorem posI {j : Int} (h : 0 < j) : 0 < j := h
theorem cut_ints (ns : List Int) (lo hi : Option Int) : ∃ ms : List Int, cutV (ns.map V.int) lo hi = ms.map V.int := ⟨_, by
  unfold cutV
  rw [← List.map_drop, ← List.map_take]⟩
theorem pow10_le {i m : Nat} (h : i ≤ m) : (10 : Int) ^ i ≤ (10 : Int) ^ m := by
  have := Nat.pow_le_pow_right (n := 10) (by decide) h
  have e : ∀ k : Nat, ((10 ^ k : Nat) : Int) = (10 : Int) ^ k := fun k => by rw [Int.natCast_pow]; rfl
  rw [← e, ← e]
  omega
theorem RowAt.butL {K : PySem.W.Frag} {H H' : Hp} {p b : Addr} {r : List Str} {xs : List V} (h : RowAt K H b r) (hx : H p = some (.lst xs)) (s : But p H H') : RowAt K H' b r := by
  obtain ⟨h1, dx, t, h2, h3⟩ := h
  refine ⟨h1, dx, t, s _ _ (fun e => ?_) h2, s _ _ (fun e => ?_) h3⟩
  · rw [e, hx] at h2
    cases h2
  · rw [e, hx] at h3
    cases h3
theorem RowAt.butA {K : PySem.W.Frag} {H H' : Hp} {p b : Addr} {r : List Str} (h : RowAt K H b r) (hp : PoolAt H p) (s : But p H H') : RowAt K H' b r := let ⟨_, e⟩ := hp.lst; RowAt.butL h e s
/-- a row as it is made -/
theorem init_at {K : PySem.W.Frag} {H : Hp} {x dx ts : Addr} {m : Str} {st : Int} {ps : List V} {l : List (Str × Nat)} {Q : VK} {E : XK} (hx : H x = none) (hdx : H dx = none) (ne : dx ≠ x) (ht : H ts = some (.tup ps)) (hps : Prs H ps l) (hf : Fine l) (hman : manners.contains m = true) (hst : InSpot st)
    (hk : ∀ k, Least (laid (expand l) m) k → k ≤ 240) (q : ∀ H6 r, told (laid (expand l) m) st r → Same H H6 → RowAt K H6 x r → Q .non H6) : spInit K [.ref x, .ref ts, .str m, .int st] (upd (upd H dx (.own x)) x (.ins (ga K "Row") dx [])) Q E :=
  have S2 : Same H (upd (upd H dx (.own x)) x (.ins (ga K "Row") dx [])) := mk_new hx hdx ne
  ⟨x, ts, m, st, dx, ps, l, rfl, upd_same, S2 _ _ ht, hps.mono (Tups.of S2), hf, hman, hst, hk, fun H6 r hr pres hrow => q H6 r hr (mk_same hx hdx ne pres) hrow⟩
theorem run_240 {l : List (Str × Nat)} (hf : Fine l) : ∀ k, Least (laid (expand l) "run") k → k ≤ 240 := fun k hk => by
  rw [laid_run] at hk
  have := hk.le
  rw [expand_length] at this
  have := hf.most
  omega
end S11

namespace S11
open PySem PySem.Spec PyProof.Rows L2 L2.Own He Sl
/-! ## so many threads from a spot on -/
/-- so many threads of a row from a spot on -/
def fromTo (r : List Str) (first : Int) (many : Nat) : List Str := (List.range many).map fun j => at_ r (first + (j : Nat))
theorem fromTo_length (r : List Str) (first : Int) (many : Nat) : (fromTo r first many).length = many := by
  unfold fromTo
  rw [List.length_map, List.length_range]
theorem fromTo_get {r : List Str} {first : Int} {many i : Nat} (h : i < many) : (fromTo r first many)[i]? = some (at_ r (first + (i : Nat))) := by
  unfold fromTo
  rw [List.getElem?_map, List.getElem?_range h]
  rfl
def spToldF : Sp := fun vs H Q _ => ∃ (a : Addr) (zs : List Str) (place : Int) (many : Nat), vs = [.ref a, .int place, .int (many : Nat)] ∧ H a = some (.tup (zs.map V.str)) ∧ 0 < zs.length ∧ many ≤ 1000 ∧
  ∀ (H' : Hp) (t : Addr), Same H H' → H t = none → H' t = some (.tup ((fromTo zs place many).map V.str)) → Q (.ref t) H'
theorem fromTo_fine {r : List Str} (hr : RowOk r) {first : Int} {many : Nat} (h0 : 0 < many) (h1 : many ≤ 240) : FineT (fromTo r first many) := by
  refine ⟨fun e => ?_, fun z hz => ?_, by rw [fromTo_length]; exact h1⟩
  · have := fromTo_length r first many
    rw [e] at this
    have e0 : ([] : List Str).length = 0 := rfl
    omega
  · unfold fromTo at hz
    obtain ⟨j, _, rfl⟩ := List.mem_map.mp hz
    exact hr.sh _ (at_mem hr.ne _)
theorem fromTo_mod (r : List Str) (first : Int) (many : Nat) : fromTo r (first % (r.length : Nat)) many = fromTo r first many := by
  unfold fromTo
  refine List.map_congr_left fun j _ => ?_
  rw [← at_mod (first % (r.length : Nat) + (j : Nat)), Int.emod_add_emod, at_mod]
section
variable {P : Program} {w : World} {K : PySem.W.Frag} {mg : Str → Option Value} {base : Heap}
/- slots: 0 threads, 1 place, 2 many, 3 size, 4 further; cells place size threads -/
def N_told_from : List Str := ["threads", "place", "many", "size", "further"]
theorem sc_told_from : FnScope N_told_from ["threads", "place", "many"] (defScope s_told_from) := ⟨rfl, rfl, rfl, by decide +kernel, rfl, by decide +kernel, by decide +kernel⟩
theorem ok_told_from (T : Txt K mg) : FnOk P w K mg base CX0 2 (ga K "told_from") (fdOf K "told_from") ["threads", "place", "many"] (spToldF) := by
  refine T.F_told_from.ok sc_told_from (fun vs H Q E h => ?_) (fun cdv A outer s H vs Q E hr h => ?_)
  · obtain ⟨a, zs, place, many, rfl, _⟩ := h
    rfl
  · obtain ⟨a, zs, place, many, rfl, ha, h0, hl, hQ⟩ := h
    refine ⟨_, PSs.nox (pss_cons (ps_set (i := 3) sc_told_from.nd rfl (Or.inr rfl) (pe_callB call_len (by rfl) T.f_len (by decide +kernel) (pa_cons (pv 0) pa_nil)))
    (pss_one (ps_ret (pe_callTy call_tuple_of (by rfl) T.f_tuple (by decide +kernel) (pa_cons (pe_lc (own := [("further", 4)]) rfl sc_told_from.nd (pi_range1 (by rfl) T.f_range (pa_cons (pv 2) pa_nil)) (blkOk_by (own := [("further", 4)]) (N := N_told_from) (sc := defScope s_told_from) (by decide +kernel)) (fun _ _ _ _ _ => (pg_name (i := 4) sc_told_from.nd rfl (Or.inl rfl))) (fun _ _ _ _ _ => pts_nil) (fun _ _ _ _ _ => (pe_ix (ix_tupK (K := K) rfl) (pv 0) (pe_op op_mod (pe_op op_add (pv 1) (pv 4)) (pv 3)) (fun _ _ => rfl)))) pa_nil))))), ?_⟩
    have hml : (zs.map V.str).length = zs.length := List.length_map ..
    refine ⟨_, rfl, _, _, rfl, Or.inr ⟨_, SqT.of ha, rfl⟩, _, rfl, (many : Int), rfl, by omega, by omega, ?_⟩
    refine fun D hD => lc_it (walk_range (lo := 0) (n := (many : Int).toNat)) (fun i H' => LcAt H D H' (((List.range i).map fun j => at_ zs (place + (j : Nat))).map V.str)) (LcAt.start hD) (fun _ _ _ _ => True.intro) (fun i x Ha Hb hi hL hy => ?_) fun Ha hL => ?_
    · obtain ⟨rfl, rfl⟩ := hy
      have ha2 := hL.same _ _ ha
      refine ⟨rfl, _, rfl, _, rfl, _, rfl, _, _, rfl, rfl, _, rfl, _, _, rfl, rfl, ?_, ?_⟩
      · show (0 : Int) < (((zs.map V.str).length : Nat) : Int)
        rw [hml]
        omega
      · refine ⟨a, _, _, .str (at_ zs (place + (0 + (i : Nat)))), rfl, rfl, SqT.of ha2, ?_, _, hL.it, ?_, ?_⟩
        · rw [hml]
          exact ix_at h0 _
        · refine small ?_
          rw [List.length_map, List.length_map, List.length_range]
          omega
        · rw [range_more i (fun s => at_ zs (place + s)), show place + (0 + ((i : Nat) : Int)) = place + (i : Nat) by omega]
          exact hL.push
    · refine ⟨D, _, rfl, .inl ⟨SqL.of hL.it, fun t ht => ?_⟩⟩
      exact hQ _ t (hL.same.trans (same_new ht)) (Same.free hL.same ht) upd_same
end
end S11

namespace S11
open PySem PySem.Spec PyProof.Rows L2 L2.Own He Sl
/-! ## rows of threads; each so many threads -/
def stepL (ws : List Str) (n : Int) : List Str := (List.range ws.length).map fun j => at_ ws ((j : Nat) * n)
theorem stepL_length (ws : List Str) (n : Int) : (stepL ws n).length = ws.length := by
  unfold stepL
  rw [List.length_map, List.length_range]
theorem at_step {ws : List Str} (h : 0 < ws.length) (n s : Int) : at_ (stepL ws n) s = at_ ws (s * n) := by
  refine at_spun (f := fun s => at_ ws (s * n)) h (fun s => ?_) s
  show at_ ws ((s + (ws.length : Nat)) * n) = at_ ws (s * n)
  rw [← at_mod ((s + (ws.length : Nat)) * n), Int.add_mul, Int.add_mul_emod_self_left, at_mod]
theorem stepL_mem {ws : List Str} (h : 0 < ws.length) {n : Int} {z : Str} (hz : z ∈ stepL ws n) : z ∈ ws := by
  unfold stepL at hz
  obtain ⟨j, _, rfl⟩ := List.mem_map.mp hz
  exact at_mem h _
/-- taken by n and then by k it is as it was -/
def BackBy (r : List Str) (n k : Int) : Prop := ∀ s : Int, at_ r (s * k * n) = at_ r s
theorem back_iff {r : List Str} (h : 0 < r.length) (n k : Int) : stepL (stepL r n) k = r ↔ BackBy r n k := by
  have hl : 0 < (stepL r n).length := by rw [stepL_length]; exact h
  constructor
  · intro e s
    rw [← at_step h, ← at_step hl, e]
  · intro e
    refine at_ext (by rw [stepL_length, stepL_length]) fun i _ => ?_
    rw [at_step hl, at_step h]
    exact e _
def spRowT (K : PySem.W.Frag) : Sp := fun vs H Q _ => ∃ (t : Addr) (ws : List Str), vs = [.ref t] ∧ H t = some (.tup (ws.map V.str)) ∧ 0 < ws.length ∧ ws.length ≤ 240 ∧ (∀ z ∈ ws, isSh z = true) ∧
  ∀ (H' : Hp) (b : Addr) (r : List Str), (RowOk r ∧ ∀ s, at_ r s = at_ ws s) → r.length ≤ ws.length → Same H H' → H b = none → RowAt K H' b r → Q (.ref b) H'
def spStep : Sp := fun vs H Q _ => ∃ (t : Addr) (ws : List Str) (n : Int), vs = [.ref t, .int n] ∧ H t = some (.tup (ws.map V.str)) ∧ 0 < ws.length ∧ ws.length ≤ 240 ∧
  ∀ (H' : Hp) (b : Addr), Same H H' → H b = none → H' b = some (.tup ((stepL ws n).map V.str)) → Q (.ref b) H'
def spChkStep : Sp := fun vs H Q _ => ∃ n : Int, vs = [.int n] ∧ InSpot n ∧ n ≠ 0 ∧ Q .non H
def spChkShade : Sp := fun vs H Q _ => ∃ z : Str, vs = [.str z] ∧ isSh z = true ∧ ∀ H', Same H H' → Q .non H'
def spEach (K : PySem.W.Frag) : Sp := fun vs H Q _ => ∃ (a : Addr) (r : List Str) (n : Int), vs = [.ref a, .int n] ∧ RowAt K H a r ∧ InSpot n ∧ n ≠ 0 ∧
  ∀ (H' : Hp) (b : Addr) (q : List Str), (RowOk q ∧ ∀ s, at_ q s = at_ r (s * n)) → q.length ≤ r.length → Same H H' → H b = none → RowAt K H' b q → Q (.ref b) H'
def spBack (K : PySem.W.Frag) : Sp := fun vs H Q _ => ∃ (a : Addr) (r : List Str) (n : Int), vs = [.ref a, .int n] ∧ RowAt K H a r ∧ InSpot n ∧ n ≠ 0 ∧
  (∀ (H' : Hp) (k : Nat), Same H H' → 1 ≤ k → k ≤ r.length → BackBy r n (k : Nat) → (∀ j : Nat, 1 ≤ j → j < k → ¬ BackBy r n (j : Nat)) → Q (.int (k : Nat)) H') ∧
  ∀ (H' : Hp), Same H H' → (∀ j : Nat, 1 ≤ j → j ≤ r.length → ¬ BackBy r n (j : Nat)) → Q .non H'
section
variable {P : Program} {w : World} {K : PySem.W.Frag} {mg : Str → Option Value} {base : Heap}
/- slots: 0 threads -/
def N_row_of_threads : List Str := ["threads"]
theorem sc_row_of_threads : FnScope N_row_of_threads ["threads"] (defScope s_row_of_threads) := ⟨rfl, rfl, rfl, by decide +kernel, rfl, by decide +kernel, by decide +kernel⟩
theorem ok_row_of_threads (T : Txt K mg) : FnOk P w K mg base CX0 9 (ga K "row_of_threads") (fdOf K "row_of_threads") ["threads"] (spRowT K) := by
  have G_Row___init__ := ok_Row___init__ (P := P) (w := w) (base := base) T
  have G_stripes_of := ok_stripes_of (P := P) (w := w) (base := base) T
  have G_short_round := ok_short_round (P := P) (w := w) (base := base) T
  obtain ⟨ds2_Row___init__, b2_Row___init__⟩ := T.b2_Row___init__
  refine T.F_row_of_threads.ok sc_row_of_threads (fun vs H Q E h => ?_) (fun cdv A outer s H vs Q E hr h => ?_)
  · obtain ⟨t, ws, rfl, _⟩ := h
    rfl
  · obtain ⟨t, ws, rfl, ht, h0, h1, hs, hQ⟩ := h
    refine ⟨_, PSs.nox (pss_one (ps_ret (pe_make T.mk_Row G_Row___init__ (hr.mono (by decide)) (by rfl) T.c_Row b2_Row___init__.2 b2_Row___init__.1 pass0 (pa_cons (pe_call G_stripes_of (hr.mono (by decide)) (by rfl) T.g_stripes_of T.F_stripes_of.kp T.b_stripes_of .nil passL (pa_cons (pe_call G_short_round (hr.mono (by decide)) (by rfl) T.g_short_round T.F_short_round.kp T.b_short_round .nil pass0 (pa_cons (pv 0) pa_nil)) pa_nil)) pa_nil)))), ?_⟩
    refine ⟨_, rfl, t, ws, rfl, ht, h0, by omega, hs, fun k hk => Nat.le_trans hk.le h1, fun H1 r1 k hk S1 h1' => ?_⟩
    have hR := hk.rowOk hs (Nat.le_trans hk.le h1)
    have hf := row_fine hR
    obtain ⟨w1, w2⟩ := fine_th2 h1' hf
    refine ⟨.ref r1, rfl, w1, (fun h => by rw [w2] at h; cases h), fun b ys e hb _ H2 t1 ps S2 ht1 ht1' hps => ?_⟩
    cases e
    have ey := tup_strs h1' hb
    subst ey
    refine fun x dx2 hx hdx2 ne => ?_
    refine init_at hx hdx2 ne ht1' hps (fine_groups hf) (by decide +kernel) ⟨by decide, by decide⟩ (fun k2 hk2 => ?_) fun H6 r hr S56 hrow => ⟨rfl, ?_⟩
    · rw [groups_expand, laid_run] at hk2
      exact Nat.le_trans hk2.le hR.most
    · rw [groups_expand, laid_run] at hr
      have e : r = ws.take k := RowOk.unique hr.1 hR fun s => by rw [hr.2]; congr 1; omega
      have S02 := S1.trans S2
      refine hQ H6 x r ⟨hr.1, fun s => ?_⟩ ?_ (S02.trans S56) (Same.free S02 hx) hrow
      · rw [e, hk.at]
      · rw [e, List.length_take]
        omega
end
end S11

namespace S11
open PySem PySem.Spec PyProof.Rows L2 L2.Own He Sl
/-! ## pieces -/
/-- a piece as it stands in the heap -/
def PieceAt (K : PySem.W.Frag) (H : Hp) (a : Addr) (p : List Str) : Prop := FineT p ∧ ∃ dx t, H a = some (.ins (ga K "Piece") dx [("held", .ref t)]) ∧ H t = some (.tup (p.map V.str))
theorem PieceAt.same {K : PySem.W.Frag} {H H' : Hp} {a : Addr} {p : List Str} (h : PieceAt K H a p) (s : Same H H') : PieceAt K H' a p := let ⟨h1, dx, t, h2, h3⟩ := h; ⟨h1, dx, t, s _ _ h2, s _ _ h3⟩
def spPInit (K : PySem.W.Frag) : Sp := fun vs H Q _ => ∃ (x t dx : Addr) (p : List Str), vs = [.ref x, .ref t] ∧ H x = some (.ins (ga K "Piece") dx []) ∧ H t = some (.tup (p.map V.str)) ∧ FineT p ∧
  ∀ H', (∀ b o, b ≠ x → H b = some o → H' b = some o) → PieceAt K H' x p → Q .non H'
def spPThreads (K : PySem.W.Frag) : Sp := fun vs H Q _ => ∃ (a : Addr) (p : List Str), vs = [.ref a] ∧ PieceAt K H a p ∧ ∀ t, H t = some (.tup (p.map V.str)) → Q (.ref t) H
def spPLen (K : PySem.W.Frag) : Sp := fun vs H Q _ => ∃ (a : Addr) (p : List Str), vs = [.ref a] ∧ PieceAt K H a p ∧ Q (.int (p.length : Nat)) H
def spPEq (K : PySem.W.Frag) : Sp := fun vs H Q _ => ∃ (a b : Addr) (p q : List Str), vs = [.ref a, .ref b] ∧ PieceAt K H a p ∧ PieceAt K H b q ∧ Q (.bl (decide (p = q))) H
def spJoined (K : PySem.W.Frag) : Sp := fun vs H Q _ => ∃ (a b : Addr) (p q : List Str), vs = [.ref a, .ref b] ∧ PieceAt K H a p ∧ PieceAt K H b q ∧ p.length + q.length ≤ 240 ∧ ∀ H' c, Same H H' → H c = none → PieceAt K H' c (p ++ q) → Q (.ref c) H'
def spCut (K : PySem.W.Frag) : Sp := fun vs H Q _ => ∃ (a : Addr) (r : List Str) (first last : Int), vs = [.ref a, .int first, .int last] ∧ RowAt K H a r ∧ InSpot first ∧ InSpot last ∧ first ≤ last ∧ last - first < 240 ∧
  ∀ H' c, Same H H' → H c = none → PieceAt K H' c (fromTo r first (last - first + 1).toNat) → Q (.ref c) H'
theorem pinit_at {K : PySem.W.Frag} {H : Hp} {x dx t : Addr} {p : List Str} {Q : VK} {E : XK} (hx : H x = none) (hdx : H dx = none) (ne : dx ≠ x) (ht : H t = some (.tup (p.map V.str))) (hf : FineT p)
    (q : ∀ H6, Same H H6 → PieceAt K H6 x p → Q .non H6) : spPInit K [.ref x, .ref t] (upd (upd H dx (.own x)) x (.ins (ga K "Piece") dx [])) Q E :=
  ⟨x, t, dx, p, rfl, upd_same, mk_new hx hdx ne _ _ ht, hf, fun H6 pres hp => q H6 (mk_same hx hdx ne pres) hp⟩
def spNum : Sp := fun vs H Q _ => ∃ n a b : Int, vs = [.int n, .int a, .int b] ∧ a ≤ n ∧ n ≤ b ∧ Q .non H
section
variable {P : Program} {w : World} {K : PySem.W.Frag} {mg : Str → Option Value} {base : Heap}
theorem piece_ty (T : Txt K mg) {H : Hp} {a dx : Addr} {fs : List (Str × V)} (ha : H a = some (.ins (ga K "Piece") dx fs)) : TyX K H (.ref a) (.ref (ga K "Piece")) := .base (.ins ha T.cl_Piece T.ca_Piece T.cg_Piece T.ct_Piece T.cm_Piece)
theorem kit_own (K : PySem.W.Frag) (C : Addr) : PySem.W.kitOne K (.ref C) (.ref C) = some true := by
  unfold PySem.W.kitOne
  rw [if_pos (by simp)]
/- slots: 0 thing, 1 least, 2 most -/
def N_check_number : List Str := ["thing", "least", "most"]
theorem sc_check_number : FnScope N_check_number ["thing", "least", "most"] (defScope s_check_number) := ⟨rfl, rfl, rfl, by decide +kernel, rfl, by decide +kernel, by decide +kernel⟩
theorem ok_check_number (T : Txt K mg) : FnOk P w K mg base CX0 3 (ga K "check_number") (fdOf K "check_number") ["thing", "least", "most"] (spNum) := by
  have G_is_whole := ok_is_whole (P := P) (w := w) (base := base) T
  refine T.F_check_number.ok sc_check_number (fun vs H Q E h => ?_) (fun cdv A outer s H vs Q E hr h => ?_)
  · obtain ⟨n, a, b, rfl, _⟩ := h
    rfl
  · obtain ⟨n, a, b, rfl, h1, h2, hQ⟩ := h
    refine ⟨_, PSs.nox (pss_one (ps_if (PW.pt (pw_or (pt_not (pt_val (pe_call G_is_whole (hr.mono (by decide)) (by rfl) T.g_is_whole T.F_is_whole.kp T.b_is_whole .nil pass0 (pa_cons (pv 0) pa_nil)))) (pw_or1 (pt_not (pt_chain op_le op_le (pv 1) (pv 0) (pv 2))))))
    (pss_one ps_never)
    pss_nil)), ?_⟩
    refine ⟨_, rfl, .int n, rfl, .int n, _, rfl, iteF ?_⟩
    refine ⟨_, rfl, _, rfl, _, _, rfl, rfl, _, rfl, ?_⟩
    rw [decide_eq_true h1]
    refine iteT ?_
    refine ⟨_, rfl, _, _, rfl, rfl, _, rfl, ?_⟩
    rw [decide_eq_true h2]
    exact iteF hQ
/- slots: 0 self, 1 threads -/
def N_Piece___init__ : List Str := ["self", "threads"]
theorem sc_Piece___init__ : FnScope N_Piece___init__ ["self", "threads"] (defScope s_Piece___init__) := ⟨rfl, rfl, rfl, by decide +kernel, rfl, by decide +kernel, by decide +kernel⟩
theorem ok_Piece___init__ (T : Txt K mg) : FnOk P w K mg base CX0 4 (ma K (ga K "Piece") "__init__") (fdAt K (ma K (ga K "Piece") "__init__")) ["self", "threads"] (spPInit K) := by
  have G_are_threads := ok_are_threads (P := P) (w := w) (base := base) T
  refine T.F_Piece___init__.ok sc_Piece___init__ (fun vs H Q E h => ?_) (fun cdv A outer s H vs Q E hr h => ?_)
  · obtain ⟨x, t, dx, p, rfl, _⟩ := h
    rfl
  · obtain ⟨x, t, dx, p, rfl, hx, ht, hf, hQ⟩ := h
    refine ⟨_, PSs.nox (pss_cons (ps_if (pt_not (pt_val (pe_call G_are_threads (hr.mono (by decide)) (by rfl) T.g_are_threads T.F_are_threads.kp T.b_are_threads .nil pass0 (pa_cons (pv 1) pa_nil))))
    (pss_one ps_never)
    pss_nil)
    (pss_one (ps_fld (pv 0) (pv 1) rfl))), ?_⟩
    obtain ⟨w1, w2⟩ := fine_th2 ht hf
    refine ⟨_, rfl, .ref t, rfl, w1, fun H1 S1 => ⟨_, rfl, ?_⟩⟩
    rw [w2]
    refine iteF ?_
    refine ⟨_, rfl, _, rfl, x, _, dx, _, rfl, S1 _ _ hx, T.cl_Piece, T.nf_Piece_held, by decide, ?_⟩
    refine hQ _ (fun b o nb hb => ?_) ⟨hf, dx, t, ?_, ?_⟩
    · rw [upd_ne nb]
      exact S1 _ _ hb
    · rw [upd_same]
      rfl
    · rw [upd_ne (fun e => by rw [e, hx] at ht; cases ht)]
      exact S1 _ _ ht
/- slots: 0 self -/
def N_Piece_threads : List Str := ["self"]
theorem sc_Piece_threads : FnScope N_Piece_threads ["self"] (defScope s_Piece_threads) := ⟨rfl, rfl, rfl, by decide +kernel, rfl, by decide +kernel, by decide +kernel⟩
theorem ok_Piece_threads (T : Txt K mg) : FnOk P w K mg base CX0 2 (ma K (ga K "Piece") "threads") (fdAt K (ma K (ga K "Piece") "threads")) ["self"] (spPThreads K) := by
  refine T.F_Piece_threads.ok sc_Piece_threads (fun vs H Q E h => ?_) (fun cdv A outer s H vs Q E hr h => ?_)
  · obtain ⟨a, p, rfl, _⟩ := h
    rfl
  · obtain ⟨a, p, rfl, ⟨hf, dx, t, ha, ht⟩, hQ⟩ := h
    refine ⟨_, PSs.nox (pss_one (ps_ret (pe_fld (pv 0) rfl))), ?_⟩
    exact ⟨_, rfl, a, _, dx, _, _, rfl, ha, T.cl_Piece, T.nf_Piece_held, rfl, hQ t ht⟩
/- slots: 0 self -/
def N_Piece___len__ : List Str := ["self"]
theorem sc_Piece___len__ : FnScope N_Piece___len__ ["self"] (defScope s_Piece___len__) := ⟨rfl, rfl, rfl, by decide +kernel, rfl, by decide +kernel, by decide +kernel⟩
theorem ok_Piece___len__ (T : Txt K mg) : FnOk P w K mg base CX0 2 (ma K (ga K "Piece") "__len__") (fdAt K (ma K (ga K "Piece") "__len__")) ["self"] (spPLen K) := by
  refine T.F_Piece___len__.ok sc_Piece___len__ (fun vs H Q E h => ?_) (fun cdv A outer s H vs Q E hr h => ?_)
  · obtain ⟨a, p, rfl, _⟩ := h
    rfl
  · obtain ⟨a, p, rfl, ⟨hf, dx, t, ha, ht⟩, hQ⟩ := h
    refine ⟨_, PSs.nox (pss_one (ps_ret (pe_callB call_len (by rfl) T.f_len (by decide +kernel) (pa_cons (pe_fld (pv 0) rfl) pa_nil)))), ?_⟩
    refine ⟨_, rfl, a, _, dx, _, _, rfl, ha, T.cl_Piece, T.nf_Piece_held, rfl, _, _, rfl, Or.inr ⟨_, SqT.of ht, rfl⟩, ?_⟩
    rw [List.length_map]
    exact hQ
/- slots: 0 self, 1 other -/
def N_Piece___eq__ : List Str := ["self", "other"]
theorem sc_Piece___eq__ : FnScope N_Piece___eq__ ["self", "other"] (defScope s_Piece___eq__) := ⟨rfl, rfl, rfl, by decide +kernel, rfl, by decide +kernel, by decide +kernel⟩
theorem ok_Piece___eq__ (T : Txt K mg) : FnOk P w K mg base CX0 2 (ma K (ga K "Piece") "__eq__") (fdAt K (ma K (ga K "Piece") "__eq__")) ["self", "other"] (spPEq K) := by
  refine T.F_Piece___eq__.ok sc_Piece___eq__ (fun vs H Q E h => ?_) (fun cdv A outer s H vs Q E hr h => ?_)
  · obtain ⟨a, b, p, q, rfl, _⟩ := h
    rfl
  · obtain ⟨a, b, p, q, rfl, ⟨hf, dx, t, ha, ht⟩, ⟨hf2, dx2, t2, hb, ht2⟩, hQ⟩ := h
    refine ⟨_, PSs.nox (pss_one (ps_ret (pe_and (pe_callB call_isi (by rfl) T.f_isinstance (by decide +kernel) (pa_cons (pv 1) (pa_cons (pe_glob (v := .ref (ga K "Piece")) rfl T.c_Piece rfl) pa_nil))) (pe_one (pe_cmpR (op_eqD hr.units) (pe_fld (pv 0) rfl) (pe_fld (pv 1) rfl) (nomark _)))))), ?_⟩
    refine ⟨_, rfl, _, _, _, _, _, rfl, .own _, piece_ty T hb, kit_own _ _, _, rfl, iteT ?_⟩
    refine ⟨_, rfl, a, _, dx, _, _, rfl, ha, T.cl_Piece, T.nf_Piece_held, rfl, ?_⟩
    refine ⟨_, rfl, b, _, dx2, _, _, rfl, hb, T.cl_Piece, T.nf_Piece_held, rfl, ?_⟩
    refine ⟨.tuple (p.map PyData.str), .tuple (q.map PyData.str), .tup (SqT.of ht) (dp_strs _ _ _), .tup (SqT.of ht2) (dp_strs _ _ _), shaped_strsT hf.sh, shaped_strsT hf2.sh, ?_⟩
    rw [eqv_tups]
    exact hQ
/- slots: 0 self, 1 other, 2 threads -/
def N_Piece_joined : List Str := ["self", "other", "threads"]
theorem sc_Piece_joined : FnScope N_Piece_joined ["self", "other"] (defScope s_Piece_joined) := ⟨rfl, rfl, rfl, by decide +kernel, rfl, by decide +kernel, by decide +kernel⟩
theorem ok_Piece_joined (T : Txt K mg) : FnOk P w K mg base CX0 6 (ma K (ga K "Piece") "joined") (fdAt K (ma K (ga K "Piece") "joined")) ["self", "other"] (spJoined K) := by
  have G_Piece___init__ := ok_Piece___init__ (P := P) (w := w) (base := base) T
  refine T.F_Piece_joined.ok sc_Piece_joined (fun vs H Q E h => ?_) (fun cdv A outer s H vs Q E hr h => ?_)
  · obtain ⟨a, b, p, q, rfl, _⟩ := h
    rfl
  · obtain ⟨a, b, p, q, rfl, ⟨hf, dx, t, ha, ht⟩, ⟨hf2, dx2, t2, hb, ht2⟩, hl, hQ⟩ := h
    refine ⟨_, PSs.nox (pss_cons (ps_set (i := 2) sc_Piece_joined.nd rfl (Or.inl rfl) (pe_op op_catA (pe_fld (pv 0) rfl) (pe_fld (pv 1) rfl)))
    (pss_cons (ps_if (pt_cmpR op_gt (pe_callB call_len (by rfl) T.f_len (by decide +kernel) (pa_cons (pv 2) pa_nil)) (pe_glob (v := .int 240) rfl T.m_MOST_THREADS.choose_spec ⟨_, rfl⟩) (nomark _))
    (pss_one ps_never)
    pss_nil)
    (pss_one (ps_ret (pe_make T.mk_Piece G_Piece___init__ (hr.mono (by decide)) (by rfl) T.c_Piece T.b_Piece___init__ .nil pass0 (pa_cons (pv 2) pa_nil)))))), ?_⟩
    refine ⟨_, rfl, a, _, dx, _, _, rfl, ha, T.cl_Piece, T.nf_Piece_held, rfl, ?_⟩
    refine ⟨_, rfl, b, _, dx2, _, _, rfl, hb, T.cl_Piece, T.nf_Piece_held, rfl, ?_⟩
    refine ⟨t, t2, _, _, rfl, rfl, SqT.of ht, SqT.of ht2, ?_, fun e => absurd (List.map_eq_nil_iff.mp e) hf.ne, fun _ e => absurd (List.map_eq_nil_iff.mp e) hf2.ne, fun _ _ c hc => ?_⟩
    · rw [List.length_map, List.length_map]
      exact smallE (by omega)
    rw [← List.map_append]
    have S1 := same_new (o := .tup ((p ++ q).map V.str)) hc
    have hpq : FineT (p ++ q) := ⟨fun e => hf.ne (List.append_eq_nil_iff.mp e).1, fun z hz => by
      rcases List.mem_append.mp hz with h | h
      · exact hf.sh z h
      · exact hf2.sh z h, by rw [List.length_append]; exact hl⟩
    refine ⟨_, rfl, _, _, rfl, Or.inr ⟨_, SqT.of upd_same, rfl⟩, _, _, rfl, rfl, _, rfl, ?_⟩
    rw [decide_eq_false (by rw [List.length_map, List.length_append]; omega)]
    refine iteF ?_
    refine ⟨_, rfl, fun x dx3 hx hdx3 ne => ?_⟩
    exact pinit_at hx hdx3 ne upd_same hpq fun H6 S6 h6 => ⟨rfl, hQ H6 x (S1.trans S6) (Same.free S1 hx) h6⟩
/- slots: 0 row, 1 first, 2 last, 3 many -/
def N_cut : List Str := ["row", "first", "last", "many"]
theorem sc_cut : FnScope N_cut ["row", "first", "last"] (defScope s_cut) := ⟨rfl, rfl, rfl, by decide +kernel, rfl, by decide +kernel, by decide +kernel⟩
theorem ok_cut (T : Txt K mg) : FnOk P w K mg base CX0 6 (ga K "cut") (fdOf K "cut") ["row", "first", "last"] (spCut K) := by
  have G_check_spot := ok_check_spot (P := P) (w := w) (base := base) T
  have G_Piece___init__ := ok_Piece___init__ (P := P) (w := w) (base := base) T
  have G_told_from := ok_told_from (P := P) (w := w) (base := base) T
  have G_Row_threads := ok_Row_threads (P := P) (w := w) (base := base) T
  refine T.F_cut.ok sc_cut (fun vs H Q E h => ?_) (fun cdv A outer s H vs Q E hr h => ?_)
  · obtain ⟨a, r, first, last, rfl, _⟩ := h
    rfl
  · obtain ⟨a, r, first, last, rfl, hA, h1, h2, hle, hlt, hQ⟩ := h
    refine ⟨_, PSs.nox (pss_cons (ps_expr (pe_call G_check_spot (hr.mono (by decide)) (by rfl) T.g_check_spot T.F_check_spot.kp T.b_check_spot .nil pass0 (pa_cons (pv 1) pa_nil)))
    (pss_cons (ps_expr (pe_call G_check_spot (hr.mono (by decide)) (by rfl) T.g_check_spot T.F_check_spot.kp T.b_check_spot .nil pass0 (pa_cons (pv 2) pa_nil)))
    (pss_cons (ps_set (i := 3) sc_cut.nd rfl (Or.inl rfl) (pe_op op_add (pe_op op_sub (pv 2) (pv 1)) pe_int))
    (pss_cons (ps_if (pt_not (pt_chain op_le op_le pe_int (pv 3) (pe_glob (v := .int 240) rfl T.m_MOST_THREADS.choose_spec ⟨_, rfl⟩)))
    (pss_one ps_never)
    pss_nil)
    (pss_one (ps_ret (pe_make T.mk_Piece G_Piece___init__ (hr.mono (by decide)) (by rfl) T.c_Piece T.b_Piece___init__ .nil pass0 (pa_cons (pe_call G_told_from (hr.mono (by decide)) (by rfl) T.g_told_from T.F_told_from.kp T.b_told_from .nil pass0 (pa_cons (pe_meth0 (pv 0) T.cl_Row T.M_Row_threads G_Row_threads (hr.mono (by decide)) T.b_Row_threads .nil pass0) (pa_cons (pv 1) (pa_cons (pv 3) pa_nil)))) pa_nil)))))))), ?_⟩
    have hR := hA.1
    have r0 := hR.ne
    obtain ⟨_, dx, t, ha, ht⟩ := id hA
    refine ⟨_, rfl, first, rfl, h1, ?_⟩
    refine ⟨_, rfl, last, rfl, h2, ?_⟩
    refine ⟨_, rfl, _, rfl, _, _, rfl, rfl, _, _, rfl, rfl, ?_⟩
    refine ⟨_, rfl, _, _, rfl, rfl, _, rfl, ?_⟩
    rw [decide_eq_true (show (1 : Int) ≤ last - first + 1 by omega)]
    refine iteT ?_
    refine ⟨_, _, rfl, rfl, _, rfl, ?_⟩
    rw [decide_eq_true (show last - first + 1 ≤ (240 : Int) by omega)]
    refine iteF ?_
    have hm : ((last - first + 1).toNat : Int) = last - first + 1 := Int.toNat_of_nonneg (by omega)
    refine ⟨_, rfl, a, dx, _, rfl, ha, rfl, a, r, rfl, hA, fun t1 ht1 => ?_⟩
    refine ⟨_, rfl, _, rfl, t1, r, first, (last - first + 1).toNat, ?_, ht1, r0, by omega, fun H2 t2 S2 n2 h2 => ?_⟩
    · rw [hm]
      rfl
    refine fun x dx3 hx hdx3 ne => ?_
    exact pinit_at hx hdx3 ne h2 (fromTo_fine hR (by omega) (by omega)) fun H6 S6 h6 => ⟨rfl, hQ H6 x (S2.trans S6) (Same.free S2 hx) h6⟩
end
end S11

namespace S11
open PySem PySem.Spec PyProof.Rows L2 L2.Own He Sl
/-! ## where pieces lie -/
/-- the spots of a round, of the first n, at which a piece fits -/
def fitsN (r p : List Str) (n : Nat) : List Int := ((List.range n).filter fun s => decide (fromTo r (s : Nat) p.length = p)).map fun s => ((s : Nat) : Int)
def fitsL (r p : List Str) : List Int := fitsN r p r.length
theorem fits_mem {r p : List Str} {n : Nat} {z : Int} : z ∈ fitsN r p n ↔ 0 ≤ z ∧ z < n ∧ fromTo r z p.length = p := by
  unfold fitsN
  rw [List.mem_map]
  constructor
  · rintro ⟨s, hs, rfl⟩
    rw [List.mem_filter, List.mem_range, decide_eq_true_iff] at hs
    exact ⟨by omega, by omega, hs.2⟩
  · rintro ⟨h0, h1, h2⟩
    refine ⟨z.toNat, ?_, Int.toNat_of_nonneg h0⟩
    rw [List.mem_filter, List.mem_range, decide_eq_true_iff, Int.toNat_of_nonneg h0]
    exact ⟨by omega, h2⟩
theorem fits_rise (r p : List Str) (n : Nat) : (fitsN r p n).Pairwise (· < ·) := by
  unfold fitsN
  rw [List.pairwise_map]
  refine List.Pairwise.imp (fun h => ?_) (List.Pairwise.filter _ List.pairwise_lt_range)
  omega
theorem fitsN_more (r p : List Str) (n : Nat) : fitsN r p (n + 1) = fitsN r p n ++ (if fromTo r (n : Nat) p.length = p then [((n : Nat) : Int)] else []) := by
  unfold fitsN
  rw [List.range_succ, List.filter_append, List.map_append]
  congr 1
  by_cases h : fromTo r (n : Nat) p.length = p
  · simp [h]
  · simp [h]
theorem fitsN_len (r p : List Str) (n : Nat) : (fitsN r p n).length ≤ n := by
  unfold fitsN
  rw [List.length_map]
  exact Nat.le_trans (List.length_filter_le _ _) (by rw [List.length_range]; exact Nat.le_refl _)
def spFits (K : PySem.W.Frag) : Sp := fun vs H Q _ => ∃ (a b : Addr) (r p : List Str), vs = [.ref a, .ref b] ∧ RowAt K H a r ∧ PieceAt K H b p ∧
  ∀ (H' : Hp) (t : Addr), Same H H' → H t = none → H' t = some (.tup ((fitsL r p).map V.int)) → Q (.ref t) H'
section
variable {P : Program} {w : World} {K : PySem.W.Frag} {mg : Str → Option Value} {base : Heap}
/- slots: 0 row, 1 piece, 2 threads, 3 wanted, 4 spot; cells threads wanted -/
def N_fits : List Str := ["row", "piece", "threads", "wanted", "spot"]
theorem sc_fits : FnScope N_fits ["row", "piece"] (defScope s_fits) := ⟨rfl, rfl, rfl, by decide +kernel, rfl, by decide +kernel, by decide +kernel⟩
theorem ok_fits (T : Txt K mg) : FnOk P w K mg base CX0 4 (ga K "fits") (fdOf K "fits") ["row", "piece"] (spFits K) := by
  have G_Row_threads := ok_Row_threads (P := P) (w := w) (base := base) T
  have G_Piece_threads := ok_Piece_threads (P := P) (w := w) (base := base) T
  have G_Row___len__ := ok_Row___len__ (P := P) (w := w) (base := base) T
  have G_told_from := ok_told_from (P := P) (w := w) (base := base) T
  refine T.F_fits.ok sc_fits (fun vs H Q E h => ?_) (fun cdv A outer s H vs Q E hr h => ?_)
  · obtain ⟨a, b, r, p, rfl, _⟩ := h
    rfl
  · obtain ⟨a, b, r, p, rfl, hA, hB, hQ⟩ := h
    refine ⟨_, PSs.nox (pss_cons (ps_set (i := 2) sc_fits.nd rfl (Or.inr rfl) (pe_meth0 (pv 0) T.cl_Row T.M_Row_threads G_Row_threads (hr.mono (by decide)) T.b_Row_threads .nil pass0))
    (pss_cons (ps_set (i := 3) sc_fits.nd rfl (Or.inr rfl) (pe_meth0 (pv 1) T.cl_Piece T.M_Piece_threads G_Piece_threads (hr.mono (by decide)) T.b_Piece_threads .nil pass0))
    (pss_one (ps_ret (pe_callTy call_tuple_of (by rfl) T.f_tuple (by decide +kernel) (pa_cons (pe_lc (own := [("spot", 4)]) rfl sc_fits.nd (pi_range1 (by rfl) T.f_range (pa_cons (pe_callB (call_lenI T.M_Row___len__.at_ T.M_Row___len__.fn (G_Row___len__.raw T.b_Row___len__ .nil) (hr.mono (by decide)) pass0) (by rfl) T.f_len (by decide +kernel) (pa_cons (pv 0) pa_nil)) pa_nil)) (blkOk_by (own := [("spot", 4)]) (N := N_fits) (sc := defScope s_fits) (by decide +kernel)) (fun _ _ _ _ _ => (pg_name (i := 4) sc_fits.nd rfl (Or.inl rfl))) (fun _ _ _ _ _ => (pts_one (pt_cmpR (op_eqDK (K := K) rfl hr.units) (pe_call G_told_from (hr.mono (by decide)) (by rfl) T.g_told_from T.F_told_from.kp T.b_told_from .nil pass0 (pa_cons (pv 2) (pa_cons (pv 4) (pa_cons (pe_callB (call_lenK (K := K) rfl) (by rfl) T.f_len (by decide +kernel) (pa_cons (pv 3) pa_nil)) pa_nil)))) (pv 3) (nomark _)))) (fun _ _ _ _ _ => (pv 4))) pa_nil)))))), ?_⟩
    have hR := hA.1
    have r0 := hR.ne
    have r1 := hR.most
    have hf := hB.1
    have p1 := hf.most
    obtain ⟨_, dx, t, ha, ht⟩ := id hA
    obtain ⟨_, dx2, t2, hb, ht2⟩ := id hB
    have hpl : (p.map V.str).length = p.length := List.length_map ..
    refine ⟨_, rfl, a, dx, _, rfl, ha, rfl, a, r, rfl, hA, fun t3 ht3 => ?_⟩
    refine ⟨_, rfl, b, dx2, _, rfl, hb, rfl, b, p, rfl, hB, fun t4 ht4 => ?_⟩
    refine ⟨_, rfl, a, dx, _, rfl, ha, a, r, rfl, hA, _, rfl, by omega, by omega, (r.length : Int), rfl, by omega, by omega, ?_⟩
    refine fun D hD => lc_it (walk_range (lo := 0) (n := (r.length : Int).toNat)) (fun i H' => LcAt H D H' ((fitsN r p i).map V.int)) (LcAt.start hD) (fun _ _ _ _ => True.intro) (fun i x Ha Hb hi hL hy => ?_) fun Ha hL => ?_
    · obtain ⟨rfl, rfl⟩ := hy
      have ht3' := hL.same _ _ ht3
      have ht4' := hL.same _ _ ht4
      have hi' : i < r.length := hi
      refine ⟨rfl, _, rfl, _, rfl, _, rfl, _, _, rfl, Or.inr ⟨_, SqT.of ht4', rfl⟩, t3, r, (i : Nat), p.length, ?_, ht3', r0, by omega, fun Hc tc Sc nc hc => ?_⟩
      · dsimp only
        rw [hpl, Int.zero_add]
        rfl
      have hL2 := hL.keep Sc
      refine ⟨_, rfl, .tuple ((fromTo r (i : Nat) p.length).map PyData.str), .tuple (p.map PyData.str), .tup (SqT.of hc) (dp_strs _ _ _), .tup (SqT.of (Sc _ _ ht4')) (dp_strs _ _ _), shaped_strsT (fromTo_fine hR (List.length_pos_iff.mpr hf.ne) p1).sh, shaped_strsT hf.sh, _, rfl, ?_⟩
      rw [eqv_tups, fitsN_more, List.map_append]
      refine ite2 (fun c => ⟨_, rfl, _, hL2.it, ?_, ?_⟩) fun c => ?_
      · refine small ?_
        rw [List.length_map]
        have := fitsN_len r p i
        omega
      · rw [if_pos (of_decide_eq_true c)]
        dsimp only
        rw [Int.zero_add]
        exact hL2.push
      · rw [if_neg (fun h => c (decide_eq_true h)), List.map_nil, List.append_nil]
        exact hL2
    · refine ⟨D, _, rfl, .inl ⟨SqL.of hL.it, fun q hq => ?_⟩⟩
      exact hQ _ q (hL.same.trans (same_new hq)) (Same.free hL.same hq) upd_same
def onL (r p q : List Str) (gap : Int) : List Int := (fitsL r p).filter fun s => (fitsL r q).contains ((s + ((p.length : Nat) + gap)) % (r.length : Nat))
def spOn (K : PySem.W.Frag) : Sp := fun vs H Q _ => ∃ (a b c : Addr) (r p q : List Str) (gap : Int), vs = [.ref a, .ref b, .ref c, .int gap] ∧ RowAt K H a r ∧ PieceAt K H b p ∧ PieceAt K H c q ∧ 0 ≤ gap ∧ gap ≤ big ∧
  ∀ (H' : Hp) (t : Addr), Same H H' → H t = none → H' t = some (.tup ((onL r p q gap).map V.int)) → Q (.ref t) H'
end
end S11

namespace S11
open PySem PySem.Spec PyProof.Rows L2 L2.Own He Sl
def spTake : Sp := fun vs H Q _ => ∃ (p : Addr) (m : Int), vs = [.ref p, .int m] ∧ PoolB H p ∧ 0 < m ∧ m < 10000000000000000000000000000000000000000 ∧ ∀ d H', 0 ≤ d → d < m → But p H H' → PoolB H' p → Q (.int d) H'
def spPool (K : PySem.W.Frag) : Sp := fun vs H Q _ => ∃ (a : Addr) (ns : List Int) (k : Int), vs = [.ref a, .int k] ∧ SqL K H a (ns.map V.int) ∧ 0 ≤ k ∧ k < 1000 ∧ ∀ H' p, Same H H' → H p = none → PoolB H' p → Q (.ref p) H'
def spFar : Sp := fun vs H Q _ => ∃ (p : Addr) (m : Nat), vs = [.ref p, .int (m : Nat)] ∧ PoolB H p ∧ 0 < m ∧ m ≤ 100 ∧ ∀ (n : Int) H', -((10 : Int) ^ m) < n → n < (10 : Int) ^ m → But p H H' → PoolB H' p → Q (.int n) H'
section
variable {P : Program} {w : World} {K : PySem.W.Frag} {mg : Str → Option Value} {base : Heap}
def N__law_take : List Str := ["_law_pool_here", "_law_many", "_law_digit"]
theorem sc__law_take : FnScope N__law_take ["_law_pool_here", "_law_many"] (defScope s__law_take) := ⟨rfl, rfl, rfl, by decide +kernel, rfl, by decide +kernel, by decide +kernel⟩
theorem ok__law_take (T : Txt K mg) : FnOk P w K mg base CX0 2 (ga K "_law_take") (fdOf K "_law_take") ["_law_pool_here", "_law_many"] spTake := by
  refine T.F__law_take.ok sc__law_take (fun vs H Q E h => ?_) (fun cdv A outer s H vs Q E hr h => ?_)
  · obtain ⟨p, m, rfl, _⟩ := h
    rfl
  · obtain ⟨p, m, rfl, ⟨n, b, hp, b0, b1⟩, h0, h1, hQ⟩ := h
    refine ⟨_, PSs.nox (pss_cons (ps_if (pt_cmpR op_gt (pe_ix ix_list (pv 0) pe_int (fun _ _ => rfl)) pe_int (nomark _))
    (pss_cons (ps_asg (pe_callB call_divmodW (by rfl) T.f_divmod (by decide +kernel) (pa_cons (pe_ix ix_list (pv 0) pe_int (fun _ _ => rfl)) (pa_cons (pv 1) pa_nil))) (pg_tup rfl (pgs_cons (pg_sub (pv 0) pe_int set_list) (pgs_cons (pg_name (i := 2) sc__law_take.nd rfl (Or.inl rfl)) pgs_nil))))
     (pss_one (ps_ret (pv 2))))
    pss_nil)
    (pss_cons (ps_asg (pe_op op_mod (pe_op op_add (pe_op op_mul (pe_ix ix_list (pv 0) pe_int (fun _ _ => rfl)) pe_int) pe_int) pe_int) (pg_sub (pv 0) pe_int set_list))
    (pss_one (ps_ret (pe_op op_mod (pe_op op_fdiv (pe_ix ix_list (pv 0) pe_int (fun _ _ => rfl)) pe_int) (pv 1)))))), ?_⟩
    refine ⟨_, rfl, p, _, _, _, rfl, rfl, SqL.of hp, rfl, _, _, rfl, rfl, _, rfl, ite2 (fun c => ?_) fun c => ?_⟩
    · refine ⟨_, rfl, p, _, _, _, rfl, rfl, SqL.of hp, rfl, _, rfl, n, m, rfl, dvp h0 h1, fun t ht => ?_⟩
      have hp1 : (upd H t (.tup [.int (n / m), .int (n % m)])) p = some (.lst [.int n, .int b]) := same_new ht _ _ hp
      refine ⟨t, _, rfl, SqT.of upd_same, rfl, _, _, rfl, _, rfl, p, _, _, 0, rfl, rfl, hp1, rfl, _, _, rfl, rfl, _, rfl, ?_⟩
      exact hQ _ _ (Int.emod_nonneg _ (by omega)) (Int.emod_lt_of_pos _ h0) ((But.of (same_new ht)).trans But.upd) ⟨_, _, upd_same, b0, b1⟩
    · refine ⟨_, rfl, p, _, _, _, rfl, rfl, SqL.of hp, rfl, _, _, rfl, rfl, .inl ⟨by omega, by omega⟩, _, _, rfl, rfl, _, _, rfl, rfl, posI (by decide), ?_⟩
      refine ⟨_, rfl, p, _, _, 1, rfl, rfl, hp, rfl, ?_⟩
      refine ⟨_, rfl, p, _, _, _, rfl, rfl, SqL.of upd_same, rfl, _, _, rfl, rfl, ⟨by decide, by decide⟩, _, rfl, _, _, rfl, rfl, h0, ?_⟩
      refine hQ _ _ (Int.emod_nonneg _ (by omega)) (Int.emod_lt_of_pos _ h0) But.upd ⟨_, _, upd_same, Int.emod_nonneg _ (by decide), Int.lt_trans (Int.emod_lt_of_pos _ (by decide)) (by decide)⟩
def N__law_pool : List Str := ["_law_script", "_law_k", "_law_cell", "_law_more", "_law_wide", "_law_found", "_law_turn"]
theorem sc__law_pool : FnScope N__law_pool ["_law_script", "_law_k"] (defScope s__law_pool) := ⟨rfl, rfl, rfl, by decide +kernel, rfl, by decide +kernel, by decide +kernel⟩
theorem ok__law_pool (T : Txt K mg) : FnOk P w K mg base CX0 2 (ga K "_law_pool") (fdOf K "_law_pool") ["_law_script", "_law_k"] (spPool K) := by
  refine T.F__law_pool.ok sc__law_pool (fun vs H Q E h => ?_) (fun cdv A outer s H vs Q E hr h => ?_)
  · obtain ⟨a, ns, k, rfl, _⟩ := h
    rfl
  · obtain ⟨a, ns, k, rfl, ha, k0, k1, hQ⟩ := h
    refine ⟨_, PSs.nox (pss_cons (ps_set (i := 2) sc__law_pool.nd rfl (Or.inl rfl) (pe_callB (cr_sum rfl) (by rfl) T.f_sum (by decide +kernel) (pa_cons (pe_slice sl_list (pv 0) (po_some (pv 1)) (po_some (pe_op op_add (pv 1) pe_int))) pa_nil)))
    (C8.pss_cut (ps_set (i := 3) sc__law_pool.nd rfl (Or.inl rfl) (pe_op op_add (pe_op op_add (pe_op op_mul (pv 2) pe_int) (pe_op op_mul (pe_op op_mul pe_int (pv 1)) (pv 1))) pe_int))
    (C8.pss_cut (ps_if (PW.pt (pw_or (pt_cmpR op_lt (pv 2) pe_int (nomark _)) (pw_or1 (pt_cmpR op_ge (pv 2) (pe_op op_pow pe_int pe_int) (nomark _)))))
    (pss_cons (ps_set (i := 4) sc__law_pool.nd rfl (Or.inl rfl) (pe_op op_mulW (pe_op op_mulW (pe_op op_pow pe_int pe_int) (pe_op op_pow pe_int pe_int)) (pe_op op_pow pe_int pe_int)))
     (pss_one (ps_ret (pe_lst (pa_cons (pe_op op_mod (pe_callB call_abs (by rfl) T.f_abs (by decide +kernel) (pa_cons (pv 2) pa_nil)) (pe_op op_mulW (pv 4) (pv 4))) (pa_cons (pe_op op_mod (pv 3) pe_int) pa_nil))))))
    pss_nil)
    (pss_cons (ps_set (i := 5) sc__law_pool.nd rfl (Or.inl rfl) pe_int)
    (pss_cons (ps_for PassesOwn.never rfl (pi_range1 (by rfl) T.f_range (pa_cons pe_int pa_nil)) (pg_name (i := 6) sc__law_pool.nd rfl (Or.inl rfl))
    (pss_cons (ps_set (i := 3) sc__law_pool.nd rfl (Or.inl rfl) (pe_op op_mod (pe_op op_add (pe_op op_add (pe_op op_mul (pe_op op_mod (pv 3) pe_int) pe_int) (pe_op op_mul pe_int (pv 6))) pe_int) pe_int))
     (pss_one (ps_set (i := 5) sc__law_pool.nd rfl (Or.inl rfl) (pe_op op_add (pe_op op_mul (pv 5) (pe_op op_pow pe_int pe_int)) (pe_op op_mod (pe_op op_mul (pv 3) (pe_op op_add (pe_op op_mod (pv 3) pe_int) pe_int)) pe_int))))))
    (pss_one (ps_ret (pe_lst (pa_cons (pv 5) (pa_cons (pv 3) pa_nil)))))))))), ?_⟩
    refine ⟨_, rfl, _, rfl, _, rfl, _, rfl, _, _, rfl, rfl, _, rfl, a, _, rfl, ha, fun q hq => ?_⟩
    obtain ⟨ms, hm⟩ := cut_ints ns (some k) (some (k + 1))
    refine ⟨q, ms, rfl, SqL.of (by rw [upd_same]; exact congrArg (fun z => some (HO.lst z)) hm), ?_⟩
    generalize ms.sum = cell
    have s1 : Same H (upd H q (.lst (cutV (ns.map V.int) (some k) (some (k + 1))))) := same_new hq
    generalize upd H q (.lst (cutV (ns.map V.int) (some k) (some (k + 1)))) = H1 at s1
    refine ⟨fun σ H' => ∃ m : Int, σ = [some (.ref a), some (.int k), some (.int cell), some (.int m), none, none, none] ∧ H' = H1, ?_, fun σ H2 hM => ?_⟩
    · refine ⟨_, rfl, _, _, rfl, rfl, .inr ⟨by decide, by decide⟩, _, rfl, _, _, rfl, rfl, .inl ⟨by decide, by decide⟩, _, rfl, _, _, rfl, rfl, .inr ⟨by omega, by omega⟩, _, _, rfl, rfl, _, _, rfl, rfl, ?_⟩
      exact ⟨_, rfl, rfl⟩
    obtain ⟨m0, rfl, rfl⟩ := hM
    refine ⟨fun σ H' => σ = [some (.ref a), some (.int k), some (.int cell), some (.int m0), none, none, none] ∧ H' = H2, ?_, fun σ H3 hM => ?_⟩
    · have big : ∀ H', H' = H2 → (tSeq (tAsg (tOp (rI CMulW fun i j => V.int (i * j)) (tOp (rI CMulW fun i j => V.int (i * j)) (tOp (rI CPow fun i j => V.int (i ^ j.toNat)) (tC (V.int 10)) (tC (V.int 64))) (tOp (rI CPow fun i j => V.int (i ^ j.toNat)) (tC (V.int 10)) (tC (V.int 64)))) (tOp (rI CPow fun i j => V.int (i ^ j.toNat)) (tC (V.int 10)) (tC (V.int 64)))) (gName 4))
          (tRet (tLst (tCons (tOp (rI (fun x j => 0 < j) fun i j => V.int (i % j)) (tCB (fun xs H Q => ∃ i, xs = [V.int i] ∧ Q (V.int (if i < 0 then -i else i)) H) (tCons (tVar 2) tNil)) (tOp (rI CMulW fun i j => V.int (i * j)) (tVar 4) (tVar 4))) (tCons (tOp (rI (fun x j => 0 < j) fun i j => V.int (i % j)) (tVar 3) (tC (V.int 999999999989))) tNil)))))
          { nx := fun σ H' => σ = [some (.ref a), some (.int k), some (.int cell), some (.int m0), none, none, none] ∧ H' = H2, rt := Q } [some (.ref a), some (.int k), some (.int cell), some (.int m0), none, none, none] H' := fun H' e => by
        subst e
        have pw : CPow 10 64 := ⟨by decide, by decide, by decide⟩
        refine ⟨_, _, rfl, rfl, pw, _, _, rfl, rfl, pw, _, _, rfl, rfl, (by unfold CMulW; decide +kernel), _, _, rfl, rfl, pw, _, _, rfl, rfl, (by unfold CMulW; decide +kernel), ?_⟩
        refine ⟨_, rfl, _, rfl, _, rfl, _, rfl, _, _, rfl, rfl, (by unfold CMulW; decide +kernel), _, _, rfl, rfl, ?_, _, rfl, _, _, rfl, rfl, posI (by decide), (by show 2 ≤ sizeLine; decide), fun l hl => ?_⟩
        · show (0 : Int) < (10 ^ Int.toNat 64 * 10 ^ Int.toNat 64 * 10 ^ Int.toNat 64) * (10 ^ Int.toNat 64 * 10 ^ Int.toNat 64 * 10 ^ Int.toNat 64)
          decide +kernel
        · exact hQ _ l (s1.trans (same_new hl)) (Same.free s1 hl) ⟨_, _, upd_same, Int.emod_nonneg _ (by decide), Int.lt_trans (Int.emod_lt_of_pos _ (by decide)) (by decide)⟩
      refine ⟨_, rfl, _, _, rfl, rfl, _, rfl, ite2 (fun c => iteT (big _ rfl)) fun c => ?_⟩
      exact ⟨_, rfl, _, _, rfl, rfl, ⟨by decide, by decide, by decide⟩, _, _, rfl, rfl, _, rfl, ite2 (fun d => big _ rfl) fun d => ⟨rfl, rfl⟩⟩
    obtain ⟨rfl, rfl⟩ := hM
    refine ⟨27, rfl, by decide, by decide, ?_⟩
    refine for_it walk_range (fun i σ H' => ∃ m f u, σ = [some (.ref a), some (.int k), some (.int cell), some (.int m), none, some (.int f), u] ∧ H' = H3 ∧ (0 < i → 0 ≤ m ∧ m < 1000000000000)) ⟨_, 0, none, rfl, rfl, fun h => by omega⟩ (fun _ _ _ _ _ => True.intro) (fun i x σ H0 H2 hi hP hy => ?_) fun σ H2 hP => ?_
    · obtain ⟨m, f, u, rfl, rfl, _⟩ := hP
      obtain ⟨rfl, rfl⟩ := hy
      refine ⟨_, rfl, _, _, rfl, rfl, posI (by decide), _, _, rfl, rfl, .inr ⟨by decide, by decide⟩, _, rfl, _, _, rfl, rfl, .inl ⟨by decide, by decide⟩, _, _, rfl, rfl, _, _, rfl, rfl, _, _, rfl, rfl, posI (by decide), ?_⟩
      have hm : ∀ z : Int, 0 ≤ z % 999999999989 ∧ z % 999999999989 < 999999999989 := fun z => ⟨Int.emod_nonneg _ (by decide), Int.emod_lt_of_pos _ (by decide)⟩
      obtain ⟨g0, g1⟩ := hm (m % 999999999989 * 69621 + 40503 * (0 + (i : Nat)) + 271)
      refine ⟨_, rfl, _, _, rfl, rfl, ⟨by decide, by decide, by decide⟩, _, _, rfl, rfl, .inr ⟨by decide, by decide⟩, _, rfl, _, rfl, _, _, rfl, rfl, posI (by decide), _, _, rfl, rfl, _, _, rfl, rfl, .inl ⟨Int.lt_of_lt_of_le (by decide) g0, Int.lt_trans g1 (by decide)⟩, _, _, rfl, rfl, posI (by decide), _, _, rfl, rfl, ?_⟩
      exact ⟨_, _, _, rfl, rfl, fun _ => ⟨g0, Int.lt_trans g1 (by decide)⟩⟩
    · obtain ⟨m, f, u, rfl, rfl, hm⟩ := hP
      refine ⟨_, rfl, _, rfl, (by show 2 ≤ sizeLine; decide), fun l hl => ?_⟩
      exact hQ _ l (s1.trans (same_new hl)) (Same.free s1 hl) ⟨_, _, upd_same, hm (by decide)⟩
def N__law_far : List Str := ["_law_pool_here", "_law_size", "_law_found", "_law_turn"]
theorem sc__law_far : FnScope N__law_far ["_law_pool_here", "_law_size"] (defScope s__law_far) := ⟨rfl, rfl, rfl, by decide +kernel, rfl, by decide +kernel, by decide +kernel⟩
theorem ok__law_far (T : Txt K mg) : FnOk P w K mg base CX0 3 (ga K "_law_far") (fdOf K "_law_far") ["_law_pool_here", "_law_size"] spFar := by
  have G__law_take := ok__law_take (P := P) (w := w) (base := base) T
  refine T.F__law_far.ok sc__law_far (fun vs H Q E h => ?_) (fun cdv A outer s H vs Q E hr h => ?_)
  · obtain ⟨p, m, rfl, _⟩ := h
    rfl
  · obtain ⟨p, m, rfl, hp, m0, m1, hQ⟩ := h
    refine ⟨_, PSs.nox (pss_cons (ps_set (i := 2) sc__law_far.nd rfl (Or.inl rfl) pe_int)
    (pss_cons (ps_for PassesOwn.never rfl (pi_range1 (by rfl) T.f_range (pa_cons (pe_op op_add pe_int (pe_call G__law_take (hr.mono (by decide)) (by rfl) T.g__law_take T.F__law_take.kp T.b__law_take .nil pass0 (pa_cons (pv 0) (pa_cons (pv 1) pa_nil)))) pa_nil)) (pg_name (i := 3) sc__law_far.nd rfl (Or.inl rfl))
    (pss_one (ps_set (i := 2) sc__law_far.nd rfl (Or.inl rfl) (pe_op op_add (pe_op op_mul (pv 2) pe_int) (pe_call G__law_take (hr.mono (by decide)) (by rfl) T.g__law_take T.F__law_take.kp T.b__law_take .nil pass0 (pa_cons (pv 0) (pa_cons pe_int pa_nil)))))))
    (pss_one (ps_ret (pe_op op_mul (pv 2) (pe_ix ix_list (pe_lst (pa_cons pe_int (pa_cons (pe_op op_sub pe_int pe_int) pa_nil))) (pe_call G__law_take (hr.mono (by decide)) (by rfl) T.g__law_take T.F__law_take.kp T.b__law_take .nil pass0 (pa_cons (pv 0) (pa_cons pe_int pa_nil))) (fun _ _ => rfl))))))), ?_⟩
    refine ⟨_, rfl, _, rfl, p, _, rfl, hp, by omega, by omega, fun d H1 d0 d1 b1 q1 => ⟨_, _, rfl, rfl, 1 + d, rfl, by omega, by omega, ?_⟩⟩
    refine for_it (walk_range (lo := 0) (n := (1 + d).toNat)) (fun i σ H' => ∃ (f : Int) (u : Option V), σ = [some (.ref p), some (.int (m : Nat)), some (.int f), u] ∧ But p H H' ∧ PoolB H' p ∧ 0 ≤ f ∧ f < (10 : Int) ^ i) ⟨0, none, rfl, b1, q1, by decide, by decide⟩ (fun _ _ _ _ _ => True.intro) (fun i x σ Ha Hb hi hP hy => ?_) fun σ Ha hP => ?_
    · obtain ⟨f, u, rfl, b, q, f0, f1⟩ := hP
      obtain ⟨rfl, rfl⟩ := hy
      refine ⟨_, rfl, _, _, rfl, rfl, .inr ⟨by decide, by decide⟩, _, rfl, p, 10, rfl, q, by decide, by decide, fun e Hc e0 e1 bc qc => ⟨_, _, rfl, rfl, ?_⟩⟩
      refine ⟨_, _, rfl, b.trans bc, qc, by omega, ?_⟩
      rw [Int.pow_succ]
      omega
    · obtain ⟨f, u, rfl, b, q, f0, f1⟩ := hP
      refine ⟨_, rfl, _, _, rfl, rfl, (by show 2 ≤ sizeLine; decide), fun c hc => ?_⟩
      have qc := q.new (o := .lst [.int 1, .int (0 - 1)]) hc
      refine ⟨_, rfl, p, 2, rfl, qc, by decide, by decide, fun e Hc e0 e1 bc qd => ?_⟩
      have hle : (10 : Int) ^ (1 + d).toNat ≤ (10 : Int) ^ m := pow10_le (by omega)
      have hcp := q.ne hc
      have hat : ∃ v : Int, atI [V.int 1, V.int (0 - 1)] e = some (.int v) ∧ (v = 1 ∨ v = -1) := by
        rcases (show e = 0 ∨ e = 1 by omega) with z | z
        · exact ⟨1, by rw [z]; rfl, .inl rfl⟩
        · exact ⟨-1, by rw [z]; rfl, .inr rfl⟩
      obtain ⟨v, hv, hvv⟩ := hat
      refine ⟨c, _, _, _, rfl, rfl, SqL.of (bc _ _ hcp upd_same), hv, _, _, rfl, rfl, .inr ⟨by omega, by omega⟩, ?_⟩
      refine hQ _ _ ?_ ?_ ((b.trans (But.of (same_new hc))).trans bc) qd
      · rcases hvv with z | z
        · rw [z]; omega
        · rw [z]; omega
      · rcases hvv with z | z
        · rw [z]; omega
        · rw [z]; omega
end
end S11

namespace S11
open PySem PySem.Spec PyProof.Rows L2 L2.Own He Sl
def spShades : Sp := fun vs H Q _ => ∃ (p : Addr) (m : Int), vs = [.ref p, .int m] ∧ PoolB H p ∧ 0 ≤ m ∧ m ≤ 20 ∧
  ∀ (H' : Hp) (l : Addr) (zs : List Str), But p H H' → PoolB H' p → H l = none → H' l = some (.lst (zs.map V.str)) → zs.length = m.toNat → (∀ z ∈ zs, isSh z = true) → zs.Nodup → Q (.ref l) H'
section
variable {P : Program} {w : World} {K : PySem.W.Frag} {mg : Str → Option Value} {base : Heap}
def N__law_some_shades : List Str := ["_law_pool_here", "_law_many", "_law_letters", "_law_words", "_law_found", "_law_turn", "_law_word_here", "_law_some", "_law_place", "_law_letter", "_law_one"]
theorem sc__law_some_shades : FnScope N__law_some_shades ["_law_pool_here", "_law_many"] (defScope s__law_some_shades) := ⟨rfl, rfl, rfl, by decide +kernel, rfl, by decide +kernel, by decide +kernel⟩
theorem ok__law_some_shades (T : Txt K mg) : FnOk P w K mg base CX0 3 (ga K "_law_some_shades") (fdOf K "_law_some_shades") ["_law_pool_here", "_law_many"] spShades := by
  have G__law_take := ok__law_take (P := P) (w := w) (base := base) T
  refine T.F__law_some_shades.ok sc__law_some_shades (fun vs H Q E h => ?_) (fun cdv A outer s H vs Q E hr h => ?_)
  · obtain ⟨p, m, rfl, _⟩ := h
    rfl
  · obtain ⟨p, m, rfl, hpool, m0, m1, hQ⟩ := h
    refine ⟨_, PSs.nox (pss_cons (ps_set (i := 2) sc__law_some_shades.nd rfl (Or.inr rfl) pe_str)
    (pss_cons (ps_set (i := 3) sc__law_some_shades.nd rfl (Or.inl rfl) (pe_lst (pa_cons pe_str (pa_cons pe_str (pa_cons pe_str (pa_cons pe_str (pa_cons pe_str (pa_cons pe_str (pa_cons pe_str (pa_cons pe_str pa_nil))))))))))
    (pss_cons (ps_set (i := 4) sc__law_some_shades.nd rfl (Or.inr rfl) (pe_lst pa_nil))
    (pss_cons (ps_for PassesOwn.never rfl (pi_range1 (by rfl) T.f_range (pa_cons (pv 1) pa_nil)) (pg_name (i := 5) sc__law_some_shades.nd rfl (Or.inl rfl))
    (C8.pss_cut (ps_set (i := 6) sc__law_some_shades.nd rfl (Or.inr rfl) (pe_join pe_str (pe_lc (own := [("_law_place", 8)]) rfl sc__law_some_shades.nd (pi_range1 (by rfl) T.f_range (pa_cons (pe_op op_add pe_int (pe_call G__law_take (hr.mono (by decide)) (by rfl) T.g__law_take T.F__law_take.kp T.b__law_take .nil pass0 (pa_cons (pv 0) (pa_cons pe_int pa_nil)))) pa_nil)) (blkOk_by (own := [("_law_place", 8)]) (N := N__law_some_shades) (sc := defScope s__law_some_shades) (by decide +kernel)) (fun _ _ _ _ _ => (pg_name (i := 8) sc__law_some_shades.nd rfl (Or.inl rfl))) (fun _ _ _ _ _ => pts_nil) (fun _ _ _ _ _ => (pe_ix ix_str (pv 2) (pe_call G__law_take (hr.mono (by decide)) (by rfl) T.g__law_take T.F__law_take.kp T.b__law_take .nil pass0 (pa_cons (pv 0) (pa_cons pe_int pa_nil))) (fun _ _ => rfl))))))
     (C8.pss_cut (ps_if (pt_cmpR op_eq (pe_call G__law_take (hr.mono (by decide)) (by rfl) T.g__law_take T.F__law_take.kp T.b__law_take .nil pass0 (pa_cons (pv 0) (pa_cons pe_int pa_nil))) pe_int (nomark _))
     (pss_one (ps_set (i := 6) sc__law_some_shades.nd rfl (Or.inr rfl) (pe_slice sl_str (pe_ix ix_list (pv 3) (pe_call G__law_take (hr.mono (by decide)) (by rfl) T.g__law_take T.F__law_take.kp T.b__law_take .nil pass0 (pa_cons (pv 0) (pa_cons pe_int pa_nil))) (fun _ _ => rfl)) po_none (po_some pe_int))))
     pss_nil)
     (pss_cons (ps_set (i := 7) sc__law_some_shades.nd rfl (Or.inl rfl) (pe_op op_cat (pe_op op_cat (pe_lst (pa_cons (pv 6) pa_nil)) (pe_lc (own := [("_law_letter", 9)]) rfl sc__law_some_shades.nd (pi_str (pv 2)) (blkOk_by (own := [("_law_letter", 9)]) (N := N__law_some_shades) (sc := defScope s__law_some_shades) (by decide +kernel)) (fun _ _ _ _ _ => (pg_name (i := 9) sc__law_some_shades.nd rfl (Or.inl rfl))) (fun _ _ _ _ _ => pts_nil) (fun _ _ _ _ _ => (pe_op op_add_str (pe_slice sl_str (pv 6) po_none (po_some pe_int)) (pv 9))))) (pe_lc (own := [("_law_letter", 9)]) rfl sc__law_some_shades.nd (pi_str (pv 2)) (blkOk_by (own := [("_law_letter", 9)]) (N := N__law_some_shades) (sc := defScope s__law_some_shades) (by decide +kernel)) (fun _ _ _ _ _ => (pg_name (i := 9) sc__law_some_shades.nd rfl (Or.inl rfl))) (fun _ _ _ _ _ => pts_nil) (fun _ _ _ _ _ => (pe_op op_add_str (pv 9) (pv 9))))))
     (pss_one (ps_expr (pe_bm PySem.F.plainAttrs_list PySem.F.slot_list_append PySem.F.type_list_append mt_append (pv 4) (pa_cons (pe_ix ix_list (pe_lc (own := [("_law_one", 10)]) rfl sc__law_some_shades.nd (pi_list (pv 7)) (blkOk_by (own := [("_law_one", 10)]) (N := N__law_some_shades) (sc := defScope s__law_some_shades) (by decide +kernel)) (fun _ _ _ _ _ => (pg_name (i := 10) sc__law_some_shades.nd rfl (Or.inl rfl))) (fun _ _ _ _ _ => (pts_one (pt_cmpR (op_notIn_seqK (K := K) rfl) (pv 10) (pv 4) (by rfl)))) (fun _ _ _ _ _ => (pv 10))) pe_int (fun _ _ => rfl)) pa_nil))))))))
    (pss_one (ps_ret (pv 4))))))), ?_⟩
    refine ⟨(by show 8 ≤ sizeLine; decide), fun wd hwd => ⟨by decide, fun f hf => ?_⟩⟩
    have s1 : Same H (upd H wd (.lst (wordsL.map V.str))) := same_new hwd
    have hw1 : (upd H wd (.lst (wordsL.map V.str))) wd = some (.lst (wordsL.map V.str)) := upd_same
    have np : wd ≠ p := hpool.ne hwd
    have hpool1 := hpool.same s1
    replace hf : (upd H wd (.lst (wordsL.map V.str))) f = none := hf
    show tSeq _ _ _ _ (upd (upd H wd (.lst (wordsL.map V.str))) f (.lst []))
    generalize upd H wd (.lst (wordsL.map V.str)) = H1 at s1 hw1 hpool1 hf
    refine ⟨_, rfl, m, rfl, by omega, by omega, ?_⟩
    refine for_it walk_range (fun i σ H' => ∃ zs u5 u6 u7, σ = [some (.ref p), some (.int m), some (.str "abcdefghijklmnopqrstuvwxyz"), some (.ref wd), some (.ref f), u5, u6, u7, none, none, none] ∧ LcB p H1 f H' (zs.map V.str) ∧ zs.length = i ∧ (∀ z ∈ zs, isSh z = true) ∧ zs.Nodup)
      ⟨[], none, none, none, rfl, LcB.start hf hpool1, rfl, (fun _ h => nomatch h), List.nodup_nil⟩ (fun _ _ _ _ _ => True.intro) (fun i x σ H0 H2 hi hP hy => ?_) fun σ H2 hP => ?_
    · obtain ⟨zs, u5, u6, u7, rfl, hL, hlen, hsh, hnd⟩ := hP
      obtain ⟨rfl, rfl⟩ := hy
      refine ⟨fun σ H' => ∃ z, σ = [some (.ref p), some (.int m), some (.str "abcdefghijklmnopqrstuvwxyz"), some (.ref wd), some (.ref f), some (.int (0 + (i : Nat))), some (.str z), u7, none, none, none] ∧ LcB p H1 f H' (zs.map V.str) ∧ isSh z = true, ?_, fun σ H4 hM => ?_⟩
      · refine ⟨⟨_, rfl⟩, _, rfl, p, 3, rfl, hL.pool, by decide, by decide, fun d H3 d0 d1 b3 q3 => ⟨_, _, rfl, rfl, 1 + d, rfl, by omega, by omega, ?_⟩⟩
        have hL3 := hL.keep b3 q3
        refine fun D hD => lc_it (walk_range (lo := 0) (n := (1 + d).toNat)) (fun j H' => ∃ cs : List Nat, LcB p H3 D H' (cs.map fun c => V.str ⟨#[c]⟩) ∧ cs.length = j ∧ ∀ c ∈ cs, 97 ≤ c ∧ c ≤ 122) ⟨[], LcB.start hD hL3.pool, rfl, fun _ h => nomatch h⟩ (fun _ _ _ _ => True.intro) (fun j x Ha Hb hj hP hy => ?_) fun Ha hP => ?_
        · obtain ⟨cs, hC, hcl, hcs⟩ := hP
          obtain ⟨rfl, rfl⟩ := hy
          refine ⟨rfl, _, rfl, _, rfl, p, 26, rfl, hC.pool, by decide, by decide, fun e H6 e0 e1 b6 q6 => ?_⟩
          obtain ⟨c, hc, hc2⟩ := abc_at e0 e1
          have hC6 := hC.keep b6 q6
          refine ⟨_, _, c, rfl, rfl, (by decide +kernel), hc, _, hC6.it, ?_, cs ++ [c], ?_, by simp [hcl], fun u hu => ?_⟩
          · refine small ?_
            rw [List.length_map]
            omega
          · rw [List.map_append]
            exact hC6.push
          · rcases List.mem_append.mp hu with q | q
            · exact hcs u q
            · rw [List.mem_singleton.mp q]
              exact hc2
        · obtain ⟨cs, hC, hcl, hcs⟩ := hP
          refine ⟨_, D, cs.map fun c => (⟨#[c]⟩ : Str), rfl, rfl, .inl (SqL.of (by rw [hC.it, List.map_map]; rfl)), ?_, ?_⟩
          · have key : ∀ l : List Nat, (((l.map fun c => (⟨#[c]⟩ : Str)).map (·.length)).sum) = l.length := fun l => by
              induction l with
              | nil => rfl
              | cons c l ih =>
                rw [List.map_cons, List.map_cons, List.sum_cons, ih, List.length_cons]
                show 1 + _ = _
                omega
            rw [key, List.length_map]
            have h4 : (Str.ofString "").length = 0 := by decide +kernel
            show _ + cs.length * (Str.ofString "").length ≤ _
            rw [h4]
            omega
          · have hj := join_signs cs
            refine ⟨_, rfl, hL3.keep hC.but hC.pool, isSh_of (fun c hc => ?_) ?_ ?_⟩
            · rw [hj] at hc
              exact hcs c hc
            · rw [← Array.length_toList, hj]
              omega
            · rw [← Array.length_toList, hj]
              omega
      obtain ⟨z, rfl, hL4, hz1⟩ := hM
      refine ⟨fun σ H' => ∃ z, σ = [some (.ref p), some (.int m), some (.str "abcdefghijklmnopqrstuvwxyz"), some (.ref wd), some (.ref f), some (.int (0 + (i : Nat))), some (.str z), u7, none, none, none] ∧ LcB p H1 f H' (zs.map V.str) ∧ isSh z = true, ?_, fun σ H5 hP => ?_⟩
      · refine ⟨_, rfl, p, 8, rfl, hL4.pool, by decide, by decide, fun e H6 e0 e1 b6 q6 => ?_⟩
        have hL6 := hL4.keep b6 q6
        refine ⟨rfl, _, rfl, ite2 (fun c => ?_) fun c => ?_⟩
        · refine ⟨_, rfl, _, rfl, p, 8, rfl, hL6.pool, by decide, by decide, fun g H7 g0 g1 b7 q7 => ?_⟩
          have hL7 := hL6.keep b7 q7
          obtain ⟨y, hy1, hy2, hy3⟩ := words_at g0 g1
          refine ⟨wd, _, _, _, rfl, rfl, SqL.of (hL7.but _ _ np hw1), hy1, _, rfl, y, rfl, hy3, ?_⟩
          exact ⟨_, rfl, hL7, hy2⟩
        · exact ⟨z, rfl, hL6, hz1⟩
      · obtain ⟨z, rfl, hL5, hz1⟩ := hP
        have hzc := isSh_size hz1
        refine ⟨_, rfl, (by show 1 ≤ sizeLine; decide), fun a1 ha1 => ?_⟩
        have S1 : Same H5 (upd H5 a1 (.lst [.str z])) := same_new ha1
        have k1 : (upd H5 a1 (.lst [.str z])) a1 = some (.lst [.str z]) := upd_same
        generalize upd H5 a1 (.lst [.str z]) = G1 at S1 k1
        refine ⟨_, rfl, _, rfl, fun D hD => lc_it walk_str (fun i H' => LcAt G1 D H' ((abc.take i).map fun c => V.str (cutS z none (some 1) ++ ⟨#[c]⟩))) (LcAt.start hD) (fun _ _ _ _ => True.intro) (fun i x H6 H7 hi hP hy => ?_) fun H6 hP => ?_⟩
        · obtain ⟨rfl, c, hc, rfl⟩ := hy
          have hc' : abc[i]? = some c := by
            rw [← abc_eq]
            simpa using hc
          have hcs := cut_size z 1
          refine ⟨rfl, _, rfl, _, rfl, z, rfl, smallE (by show z.cps.size ≤ _; omega), _, rfl, _, _, rfl, rfl, ?_, _, hP.it, ?_, ?_⟩
          · show (cutS z none (some ((1 : Nat) : Int))).cps.size + 1 ≤ sizeLine
            exact smallE (by omega)
          · refine small ?_
            rw [List.length_map, List.length_take]
            have : abc.length = 26 := by decide
            omega
          · rw [take_more hc', List.map_append]
            exact hP.push
        · have hall : abc.take 26 = abc := by decide
          rw [abc_size, hall] at hP
          refine ⟨a1, D, _, _, rfl, rfl, hP.same _ _ k1, hP.it, ?_, fun c1 hc1 => ?_⟩
          · rw [List.length_map]
            exact smallE (by show 1 + abc.length ≤ _; decide)
          have S2 := S1.trans (hP.same.trans (same_new (o := .lst ([V.str z] ++ abc.map fun c => V.str (cutS z none (some 1) ++ ⟨#[c]⟩))) hc1))
          have k2 : (upd H6 c1 (.lst ([V.str z] ++ abc.map fun c => V.str (cutS z none (some 1) ++ ⟨#[c]⟩)))) c1 = some (.lst ([V.str z] ++ abc.map fun c => V.str (cutS z none (some 1) ++ ⟨#[c]⟩))) := upd_same
          generalize upd H6 c1 (.lst ([V.str z] ++ abc.map fun c => V.str (cutS z none (some 1) ++ ⟨#[c]⟩))) = G2 at S2 k2
          refine ⟨_, rfl, _, rfl, fun D hD => lc_it walk_str (fun i H' => LcAt G2 D H' ((abc.take i).map fun c => V.str ((⟨#[c]⟩ : Str) ++ ⟨#[c]⟩))) (LcAt.start hD) (fun _ _ _ _ => True.intro) (fun i x H6 H7 hi hP hy => ?_) fun H6 hP => ?_⟩
          · obtain ⟨rfl, c, hc, rfl⟩ := hy
            have hc' : abc[i]? = some c := by
              rw [← abc_eq]
              simpa using hc
            refine ⟨rfl, _, rfl, _, rfl, _, _, rfl, rfl, (by show 1 + 1 ≤ sizeLine; decide), _, hP.it, ?_, ?_⟩
            · refine small ?_
              rw [List.length_map, List.length_take]
              have : abc.length = 26 := by decide
              omega
            · rw [take_more hc', List.map_append]
              exact hP.push
          · rw [abc_size, hall] at hP
            refine ⟨c1, D, _, _, rfl, rfl, hP.same _ _ k2, hP.it, ?_, fun c2 hc2 => ?_⟩
            · rw [List.length_append, List.length_map, List.length_map]
              exact smallE (by show 1 + abc.length + abc.length ≤ _; decide)
            have e3 : ([V.str z] ++ abc.map fun c => V.str (cutS z none (some 1) ++ ⟨#[c]⟩)) ++ (abc.map fun c => V.str ((⟨#[c]⟩ : Str) ++ ⟨#[c]⟩)) = (some_ z).map V.str := by
              unfold some_
              rw [List.map_cons, List.map_append, List.map_map, List.map_map]
              rfl
            rw [e3]
            have S3 := S2.trans (hP.same.trans (same_new (o := .lst ((some_ z).map V.str)) hc2))
            have k3 : (upd H6 c2 (.lst ((some_ z).map V.str))) c2 = some (.lst ((some_ z).map V.str)) := upd_same
            generalize upd H6 c2 (.lst ((some_ z).map V.str)) = G3 at S3 k3
            have hL6 := hL5.keep (But.of S3) (hL5.pool.same S3)
            refine ⟨_, rfl, Or.inl ⟨rfl, _, SqL.of hL6.it⟩, _, rfl, c2, rfl, ⟨_, SqL.of k3⟩, fun D hD => lc_it (walk_list (xs := (some_ z).map V.str)) (fun i H' => LcAt G3 D H' ((((some_ z).take i).filter fun y => !zs.contains y).map V.str)) (LcAt.start hD) (fun i H6 _ hP => SqL.of (hP.same _ _ k3)) (fun i x H6 H7 hi hP hy => ?_) fun H6 hP => ?_⟩
            · obtain ⟨rfl, hx⟩ := hy
              obtain ⟨y, hy1, rfl⟩ : ∃ y, (some_ z)[i]? = some y ∧ x = .str y := by
                rw [List.getElem?_map] at hx
                cases e : (some_ z)[i]? with
                | none =>
                  rw [e] at hx
                  cases hx
                | some y =>
                  rw [e] at hx
                  cases hx
                  exact ⟨y, rfl, rfl⟩
              refine ⟨rfl, _, rfl, _, rfl, f, _, rfl, .inl (SqL.of (hP.same _ _ hL6.it)), rfl, Sl.flat_strs zs, _, rfl, ?_⟩
              rw [inV_strs, take_more hy1, List.filter_append, List.map_append]
              show if (!zs.contains y) = true then _ else _
              refine ite2 (fun c => ⟨_, rfl, _, hP.it, ?_, ?_⟩) fun c => ?_
              · refine small ?_
                rw [List.length_map]
                have h1 := List.length_filter_le (fun y => !zs.contains y) ((some_ z).take i)
                have h2 := List.length_take_le i (some_ z)
                have h3 : ((some_ z).map V.str).length = 53 := by
                  rw [List.length_map]
                  unfold some_
                  rw [List.length_cons, List.length_append, List.length_map, List.length_map]
                  rfl
                rw [h3] at hi
                omega
              · rw [List.filter_cons_of_pos (p := fun y => !zs.contains y) c, List.filter_nil]
                exact hP.push
              · rw [List.filter_cons_of_neg (p := fun y => !zs.contains y) c, List.filter_nil, List.map_nil, List.append_nil]
                exact hP
            · rw [List.length_map, List.take_length] at hP
              obtain ⟨y, r, er⟩ := List.exists_cons_of_ne_nil (some_new (z := z) (zs := zs) (by omega))
              rw [er] at hP
              have hy : y ∈ (some_ z).filter fun y => !zs.contains y := by
                rw [er]
                exact List.mem_cons_self
              obtain ⟨hy1, hy2⟩ := List.mem_filter.mp hy
              have hL7 := hL6.keep (But.of hP.same) (hL6.pool.same hP.same)
              refine ⟨D, _, _, _, rfl, rfl, SqL.of hP.it, (show atI (V.str y :: r.map V.str) ((0 : Nat) : Int) = some (V.str y) from atI_nat rfl), f, _, _, rfl, rfl, hL7.it, ?_, ?_⟩
              · refine small ?_
                rw [List.length_map]
                omega
              · refine ⟨zs ++ [y], _, _, _, rfl, ?_, by simp [hlen], fun u hu => ?_, ?_⟩
                · rw [List.map_append]
                  exact hL7.push
                · rcases List.mem_append.mp hu with q | q
                  · exact hsh u q
                  · rw [List.mem_singleton.mp q]
                    exact some_sh hz1 hy1
                · refine List.nodup_append.mpr ⟨hnd, by simp, fun a ha b hb e => ?_⟩
                  rw [List.mem_singleton.mp hb] at e
                  subst e
                  simp [ha] at hy2
    · obtain ⟨zs, u5, u6, u7, rfl, hL, hlen, hsh, hnd⟩ := hP
      refine ⟨_, rfl, ?_⟩
      have : zs.length = m.toNat := by omega
      exact hQ _ f zs ((But.of s1).trans hL.but) hL.pool (Same.free s1 hf) hL.it this hsh hnd
end
end S11

namespace S11
open PySem PySem.Spec PyProof.Rows L2 L2.Own He Sl
/-! ## parts told over and over -/
def spParts : Sp := fun vs H Q _ => ∃ (p : Addr) (upto wide : Int), vs = [.ref p, .int upto, .int wide] ∧ PoolB H p ∧ 1 ≤ upto ∧ upto ≤ 10 ∧ 1 ≤ wide ∧ wide ≤ 10 ∧
  ∀ (H' : Hp) (t : Addr) (ps : List V) (m : List (Str × Nat)), But p H H' → PoolB H' p → H' t = some (.tup ps) → Prs H' ps m → m ≠ [] → Pos m → (∀ s ∈ m, isSh s.1 = true) → total m ≤ 3 * (upto.toNat * wide.toNat) → Q (.ref t) H'
section
variable {P : Program} {w : World} {K : PySem.W.Frag} {mg : Str → Option Value} {base : Heap}
def N__law_parts : List Str := ["_law_pool_here", "_law_upto", "_law_wide", "_law_shades", "_law_found", "_law_turn"]
theorem sc__law_parts : FnScope N__law_parts ["_law_pool_here", "_law_upto", "_law_wide"] (defScope s__law_parts) := ⟨rfl, rfl, rfl, by decide +kernel, rfl, by decide +kernel, by decide +kernel⟩
theorem ok__law_parts (T : Txt K mg) : FnOk P w K mg base CX0 4 (ga K "_law_parts") (fdOf K "_law_parts") ["_law_pool_here", "_law_upto", "_law_wide"] spParts := by
  have G__law_take := ok__law_take (P := P) (w := w) (base := base) T
  have G__law_some_shades := ok__law_some_shades (P := P) (w := w) (base := base) T
  refine T.F__law_parts.ok sc__law_parts (fun vs H Q E h => ?_) (fun cdv A outer s H vs Q E hr h => ?_)
  · obtain ⟨p, upto, wide, rfl, _⟩ := h
    rfl
  · obtain ⟨p, upto, wide, rfl, hpool, m0, m1, w0, w1, hQ⟩ := h
    refine ⟨_, PSs.nox (C8.pss_cut (ps_set (i := 3) sc__law_parts.nd rfl (Or.inl rfl) (pe_call G__law_some_shades (hr.mono (by decide)) (by rfl) T.g__law_some_shades T.F__law_some_shades.kp T.b__law_some_shades .nil pass0 (pa_cons (pv 0) (pa_cons (pe_op op_add pe_int (pe_call G__law_take (hr.mono (by decide)) (by rfl) T.g__law_take T.F__law_take.kp T.b__law_take .nil pass0 (pa_cons (pv 0) (pa_cons pe_int pa_nil)))) pa_nil))))
    (pss_cons (ps_set (i := 4) sc__law_parts.nd rfl (Or.inl rfl) (pe_lst pa_nil))
    (C8.pss_cut (ps_for PassesOwn.never rfl (pi_range1 (by rfl) T.f_range (pa_cons (pe_op op_add pe_int (pe_call G__law_take (hr.mono (by decide)) (by rfl) T.g__law_take T.F__law_take.kp T.b__law_take .nil pass0 (pa_cons (pv 0) (pa_cons (pv 1) pa_nil)))) pa_nil)) (pg_name (i := 5) sc__law_parts.nd rfl (Or.inl rfl))
    (pss_one (ps_expr (pe_bm PySem.F.plainAttrs_list PySem.F.slot_list_append PySem.F.type_list_append mt_append (pv 4) (pa_cons (pe_tup (pa_cons (pe_ix ix_list (pv 3) (pe_call G__law_take (hr.mono (by decide)) (by rfl) T.g__law_take T.F__law_take.kp T.b__law_take .nil pass0 (pa_cons (pv 0) (pa_cons (pe_callB call_len (by rfl) T.f_len (by decide +kernel) (pa_cons (pv 3) pa_nil)) pa_nil))) (fun _ _ => rfl)) (pa_cons (pe_op op_add pe_int (pe_call G__law_take (hr.mono (by decide)) (by rfl) T.g__law_take T.F__law_take.kp T.b__law_take .nil pass0 (pa_cons (pv 0) (pa_cons (pv 2) pa_nil)))) pa_nil))) pa_nil)))))
    (pss_one (ps_ret (pe_op op_repO (pe_callTy call_tuple_of (by rfl) T.f_tuple (by decide +kernel) (pa_cons (pv 4) pa_nil)) (pe_ix ix_list (pe_lst (pa_cons pe_int (pa_cons pe_int (pa_cons pe_int (pa_cons pe_int pa_nil))))) (pe_call G__law_take (hr.mono (by decide)) (by rfl) T.g__law_take T.F__law_take.kp T.b__law_take .nil pass0 (pa_cons (pv 0) (pa_cons pe_int pa_nil))) (fun _ _ => rfl)))))))), ?_⟩
    refine ⟨fun σ H' => ∃ l zs, σ = [some (.ref p), some (.int upto), some (.int wide), some (.ref l), none, none] ∧ But p H H' ∧ PoolB H' p ∧ l ≠ p ∧ H' l = some (.lst (zs.map V.str)) ∧ zs ≠ [] ∧ zs.length ≤ 20 ∧ ∀ z ∈ zs, isSh z = true, ?_, fun σ H1 hM => ?_⟩
    · refine ⟨_, rfl, _, rfl, p, 4, rfl, hpool, by decide, by decide, fun d H3 d0 d1 b3 q3 => ?_⟩
      refine ⟨_, _, rfl, rfl, p, _, rfl, q3, by omega, by omega, fun H4 l zs b4 q4 hl hl4 hzl hsh hnd => ?_⟩
      refine ⟨l, zs, rfl, b3.trans b4, q4, q3.ne hl, hl4, fun e => ?_, by omega, hsh⟩
      rw [e] at hzl
      have : 0 = (1 + d).toNat := hzl
      omega
    obtain ⟨l, zs, rfl, b1, q1, hlp, hl, hz0, hz1, hsh⟩ := hM
    have hzl : 0 < zs.length := List.length_pos_iff.mpr hz0
    refine ⟨by decide, fun f hf => ?_⟩
    have hL0 := LcB.start hf q1
    refine ⟨fun σ H' => ∃ u5 ps m, σ = [some (.ref p), some (.int upto), some (.int wide), some (.ref l), some (.ref f), u5] ∧ LcB p H1 f H' ps ∧ Prs H' ps m ∧ 0 < m.length ∧ m.length ≤ upto.toNat ∧ ∀ s ∈ m, isSh s.1 = true ∧ 1 ≤ s.2 ∧ s.2 ≤ wide.toNat, ?_, fun σ H2 hM => ?_⟩
    · refine ⟨_, rfl, _, rfl, p, upto, rfl, hL0.pool, by omega, by omega, fun d H2 d0 d1 b2 q2 => ⟨_, _, rfl, rfl, 1 + d, rfl, by omega, by omega, ?_⟩⟩
      refine for_it (walk_range (lo := 0) (n := (1 + d).toNat)) (fun i σ H' => ∃ u5 ps m, σ = [some (.ref p), some (.int upto), some (.int wide), some (.ref l), some (.ref f), u5] ∧ LcB p H1 f H' ps ∧ Prs H' ps m ∧ m.length = i ∧ ∀ s ∈ m, isSh s.1 = true ∧ 1 ≤ s.2 ∧ s.2 ≤ wide.toNat)
        ⟨none, [], [], rfl, hL0.keep b2 q2, True.intro, rfl, fun _ h => nomatch h⟩ (fun _ _ _ _ _ => True.intro) (fun i x σ H3 H4 hi hP hy => ?_) fun σ H3 hP => ?_
      · obtain ⟨u5, ps, m, rfl, hL, hp, hml, hm⟩ := hP
        obtain ⟨rfl, rfl⟩ := hy
        have hl4 := hL.but _ _ hlp hl
        refine ⟨_, rfl, Or.inl ⟨rfl, _, SqL.of hL.it⟩, _, rfl, _, rfl, _, rfl, _, _, rfl, Or.inl ⟨_, SqL.of hl4, rfl⟩, p, _, rfl, hL.pool, ?_, ?_, fun e H5 e0 e1 b5 q5 => ?_⟩
        · rw [List.length_map]
          omega
        · rw [List.length_map]
          omega
        · rw [List.length_map] at e1
          have hL5 := hL.keep b5 q5
          obtain ⟨xs0, hx0⟩ := hL.pool.lst
          have hp5 := hp.mono (Tups.but hx0 b5)
          obtain ⟨z, hz, hzm⟩ := strs_at e0 e1
          refine ⟨l, _, _, _, rfl, rfl, SqL.of (b5 _ _ hlp hl4), hz, _, rfl, _, rfl, p, wide, rfl, q5, by omega, by omega, fun g H6 g0 g1 b6 q6 => ?_⟩
          have hL6 := hL5.keep b6 q6
          obtain ⟨xs1, hx1⟩ := q5.lst
          have hp6 := hp5.mono (Tups.but hx1 b6)
          refine ⟨_, _, rfl, rfl, (by show 2 ≤ sizeLine; decide), fun t ht => ?_⟩
          have hL7 := hL6.keep (But.of (same_new (o := .tup [.str z, .int (1 + g)]) ht)) (q6.new ht)
          have hp7 := hp6.mono (Tups.of (same_new (o := .tup [.str z, .int (1 + g)]) ht))
          have hpl := hp.length
          refine ⟨f, _, _, rfl, rfl, hL7.it, small (by omega), ?_⟩
          refine ⟨_, _, m ++ [(z, (1 + g).toNat)], rfl, hL7.push, ?_, by simp [hml], fun s hs => ?_⟩
          · refine Prs.mono (Tups.put hL7.it) (Prs.snoc ?_ hp7)
            rw [upd_same, Int.toNat_of_nonneg (by omega)]
          · rcases List.mem_append.mp hs with q | q
            · exact hm s q
            · rw [List.mem_singleton.mp q]
              exact ⟨hsh z hzm, by show 1 ≤ (1 + g).toNat; omega, by show (1 + g).toNat ≤ _; omega⟩
      · obtain ⟨u5, ps, m, rfl, hL, hp, hml, hm⟩ := hP
        exact ⟨u5, ps, m, rfl, hL, hp, by omega, by omega, hm⟩
    obtain ⟨u5, ps, m, rfl, hL, hp, hm0, hml, hm⟩ := hM
    have hpl := hp.length
    refine ⟨_, rfl, f, ps, rfl, .inl ⟨SqL.of hL.it, fun t ht => ?_⟩⟩
    have hL1 := hL.keep (But.of (same_new (o := .tup ps) ht)) (hL.pool.new ht)
    have hp1 := hp.mono (Tups.of (same_new (o := .tup ps) ht))
    have ht1 : (upd H2 t (.tup ps)) t = some (.tup ps) := upd_same
    generalize upd H2 t (.tup ps) = H3 at hL1 hp1 ht1
    refine ⟨(by show 4 ≤ sizeLine; decide), fun c hc => ?_⟩
    have hcp := hL1.pool.ne hc
    have hL2 := hL1.keep (But.of (same_new (o := .lst [.int 1, .int 1, .int 2, .int 3]) hc)) (hL1.pool.new hc)
    have htp : t ≠ p := fun e => by
      obtain ⟨xs, hx⟩ := hL1.pool.lst
      rw [← e, ht1] at hx
      cases hx
    refine ⟨_, rfl, p, 4, rfl, hL2.pool, by decide, by decide, fun e H5 e0 e1 b5 q5 => ?_⟩
    have hat : ∃ v : Int, atI [V.int 1, V.int 1, V.int 2, V.int 3] e = some (.int v) ∧ 1 ≤ v ∧ v ≤ 3 := by
      rcases (show e = 0 ∨ e = 1 ∨ e = 2 ∨ e = 3 by omega) with z | z | z | z
      · exact ⟨1, by rw [z]; rfl, by decide, by decide⟩
      · exact ⟨1, by rw [z]; rfl, by decide, by decide⟩
      · exact ⟨2, by rw [z]; rfl, by decide, by decide⟩
      · exact ⟨3, by rw [z]; rfl, by decide, by decide⟩
    obtain ⟨v, hv, v0, v1⟩ := hat
    have hT : Tups H3 H5 := (Tups.of (same_new hc)).trans (by obtain ⟨xs, hx⟩ := hL2.pool.lst; exact Tups.but hx b5)
    refine ⟨c, _, _, _, rfl, rfl, SqL.of (b5 _ _ hcp upd_same), hv, t, v, ps, rfl, rfl, hT _ _ ht1, ?_, v0, by omega, by omega, fun H6 r S6 h6 => ?_⟩
    · intro e
      rw [e] at hpl
      have : 0 = m.length := hpl
      omega
    have hp5 := (hp1.mono hT).mono (Tups.of S6)
    refine hQ H6 r _ _ ((b1.trans (hL2.but.trans b5)).trans (But.of S6)) (q5.same S6) h6 (Prs.rep hp5 v.toNat) ?_ ?_ ?_ ?_
    · obtain ⟨n, hn⟩ : ∃ n, v.toNat = n + 1 := ⟨v.toNat - 1, by omega⟩
      rw [hn, List.replicate_succ, List.flatten_cons]
      intro e
      have := (List.append_eq_nil_iff.mp e).1
      rw [this] at hm0
      exact absurd hm0 (by decide)
    · intro s hs
      obtain ⟨m', hm', hs'⟩ := List.mem_flatten.mp hs
      rw [List.eq_of_mem_replicate hm'] at hs'
      exact (hm s hs').2.1
    · intro s hs
      obtain ⟨m', hm', hs'⟩ := List.mem_flatten.mp hs
      rw [List.eq_of_mem_replicate hm'] at hs'
      exact (hm s hs').1
    · rw [total_rep]
      have h1 := total_le (k := wide.toNat) (m := m) fun s hs => (hm s hs).2.2
      have h2 : m.length * wide.toNat ≤ upto.toNat * wide.toNat := Nat.mul_le_mul_right _ hml
      exact Nat.mul_le_mul (by omega) (Nat.le_trans h1 h2)
end
end S11

namespace S11
open PySem PySem.Spec PyProof.Rows L2 L2.Own He Sl
/-! ## the law's own words -/
def spWord : Sp := fun vs H Q _ => ∃ (t : Addr) (m : Str) (ps : List V) (l : List (Str × Nat)), vs = [.ref t, .str m] ∧ H t = some (.tup ps) ∧ Prs H ps l ∧ l ≠ [] ∧ Pos l ∧ total l ≤ 1000 ∧ manners.contains m = true ∧
  ∀ (H' : Hp) (r : Addr) (xs : List Str), Same H H' → H r = none → H' r = some (.lst (xs.map V.str)) → 0 < xs.length → xs.length ≤ 2 * total l → (∀ z ∈ xs, z ∈ expand l) → (∀ s, at_ xs s = at_ (laid (expand l) m) s) → Q (.ref r) H'
section
variable {P : Program} {w : World} {K : PySem.W.Frag} {mg : Str → Option Value} {base : Heap}
def N__law_word : List Str := ["_law_parts_here", "_law_tack", "_law_words", "_law_tint", "_law_count"]
theorem sc__law_word : FnScope N__law_word ["_law_parts_here", "_law_tack"] (defScope s__law_word) := ⟨rfl, rfl, rfl, by decide +kernel, rfl, by decide +kernel, by decide +kernel⟩
theorem ok__law_word (T : Txt K mg) : FnOk P w K mg base CX0 2 (ga K "_law_word") (fdOf K "_law_word") ["_law_parts_here", "_law_tack"] spWord := by
  refine T.F__law_word.ok sc__law_word (fun vs H Q E h => ?_) (fun cdv A outer s H vs Q E hr h => ?_)
  · obtain ⟨t, m, ps, l, rfl, _⟩ := h
    rfl
  · obtain ⟨t, m, ps, l, rfl, ht, hp, hne, hpos, htot, hman, hQ⟩ := h
    have hlen := hp.length
    refine ⟨_, PSs.nox (pss_cons (ps_set (i := 2) sc__law_word.nd rfl (Or.inl rfl) (pe_lst pa_nil))
    (pss_cons (ps_for PassesOwn.never rfl (pi_tup (pv 0)) (pg_tup rfl (pgs_cons (pg_name (i := 3) sc__law_word.nd rfl (Or.inl rfl)) (pgs_cons (pg_name (i := 4) sc__law_word.nd rfl (Or.inl rfl)) pgs_nil)))
    (pss_one (ps_expr (pe_bm PySem.F.plainAttrs_list PySem.F.slot_list_extend PySem.F.type_list_extend mt_extend (pv 2) (pa_cons (pe_op op_rep (pe_lst (pa_cons (pv 3) pa_nil)) (pv 4)) pa_nil)))))
    (pss_cons (ps_if (PW.pt (pw_or (pt_cmpR op_eq (pe_callB call_len (by rfl) T.f_len (by decide +kernel) (pa_cons (pv 2) pa_nil)) pe_int (nomark _)) (pw_or1 (pt_cmpR op_eq (pv 1) pe_str (nomark _)))))
    (pss_one (ps_ret (pv 2)))
    pss_nil)
    (pss_cons (ps_if (pt_cmpR op_eq (pv 1) pe_str (nomark _))
    (pss_one (ps_ret (pe_op op_cat (pv 2) (pe_revL (pe_slice sl_list (pv 2) (po_some pe_int) (po_some (pe_un un_neg pe_int)))))))
    pss_nil)
    (pss_cons (ps_if (pt_cmpR op_eq (pv 1) pe_str (nomark _))
    (pss_one (ps_ret (pe_op op_cat (pv 2) (pe_revL (pv 2)))))
    pss_nil)
    (pss_cons (ps_if (pt_cmpR op_eq (pv 1) pe_str (nomark _))
    (pss_one (ps_ret (pe_op op_cat (pv 2) (pe_revL (pe_slice sl_list (pv 2) (po_some pe_int) po_none)))))
    pss_nil)
    (pss_one (ps_ret (pe_op op_cat (pv 2) (pe_revL (pe_slice sl_list (pv 2) po_none (po_some (pe_un un_neg pe_int))))))))))))), ?_⟩
    refine ⟨by decide, fun r hr0 => ?_⟩
    have ht1 : (upd H r (.lst [])) t = some (.tup ps) := same_new hr0 _ _ ht
    refine ⟨_, rfl, t, rfl, ⟨_, SqT.of ht1⟩, ?_⟩
    refine for_it (walk_tup (xs := ps)) (fun i σ H' => ∃ u2 u3, σ = [some (.ref t), some (.str m), some (.ref r), u2, u3] ∧ LcAt H r H' ((expand (l.take i)).map V.str)) ⟨none, none, rfl, LcAt.start hr0⟩ (fun i σ H' _ hP => ?_) (fun i x σ H0 H2 hi hP hy => ?_) fun σ H2 hP => ?_
    · obtain ⟨u2, u3, rfl, hL⟩ := hP
      exact SqT.of (hL.same _ _ ht)
    · obtain ⟨u2, u3, rfl, hL⟩ := hP
      obtain ⟨rfl, hx⟩ := hy
      obtain ⟨b, z, n, rfl, e2, e3⟩ := hp.get hx
      have e3' := hL.same _ _ e3
      have hn : total (l.take i) + n ≤ 1000 := by
        have h1 := total_take' l (i + 1)
        rw [take_more' e2, total_append, total_one'] at h1
        omega
      refine ⟨b, _, rfl, SqT.of e3', rfl, _, _, rfl, _, _, rfl, rfl, ?_⟩
      refine ⟨_, rfl, Or.inl ⟨rfl, _, SqL.of hL.it⟩, _, rfl, (by show 1 ≤ sizeLine; decide), fun q hq => ?_⟩
      refine ⟨_, rfl, q, (n : Int), _, rfl, rfl, upd_same, by omega, by omega, ?_, fun q2 hq2 => ?_⟩
      · show 1 * (n : Int).toNat ≤ sizeLine
        exact smallE (by omega)
      · have hL2 := (hL.keep (same_new hq)).keep (same_new (o := .lst (List.replicate (n : Int).toNat [V.str z]).flatten) hq2)
        refine ⟨r, q2, _, _, rfl, rfl, hL2.it, upd_same, ?_, ?_⟩
        · rw [rep_one', List.length_map, expand_length, List.length_replicate]
          exact smallE (by omega)
        · refine ⟨_, _, rfl, ?_⟩
          have e5 : (expand (l.take (i + 1))).map V.str = (expand (l.take i)).map V.str ++ (List.replicate (n : Int).toNat [V.str z]).flatten := by
            rw [rep_one', take_more' e2, expand_append, expand_one', List.map_append, List.map_replicate]
            simp
          rw [e5]
          exact hL2.to
    obtain ⟨u2, u3, rfl, hL⟩ := hP
    rw [hlen, List.take_length] at hL
    have hws0 : 0 < (expand l).length := by
      rw [expand_length]
      match l, hne, hpos with
      | s :: l', _, hpos =>
        have := hpos s List.mem_cons_self
        show 0 < s.2 + total l'
        omega
    have hwl : (expand l).length = total l := expand_length l
    generalize hws : expand l = ws at *
    have ha := hL.it
    -- behind a slice and its turning
    have fin : ∀ {H1 : Hp} {us : List Str}, Same H2 H1 → us.length ≤ ws.length → (∀ u ∈ us, u ∈ ws) → laid ws m = ws ++ us.reverse → ∀ p, H1 p = none → rCat (.ref r) (.ref p) (upd H1 p (.lst (us.map V.str).reverse)) Q := fun {H1 us} S1 hu hm e p hp => by
      refine ⟨r, p, _, _, rfl, rfl, same_new hp _ _ (S1 _ _ ha), upd_same, ?_, fun q hq => ?_⟩
      · rw [List.length_map, List.length_reverse, List.length_map]
        exact smallE (by omega)
      · rw [← List.map_reverse] at hq ⊢
        have hnew : H q = none := by
          cases hh : H q with
          | none => rfl
          | some o => rw [same_new hp _ _ (S1 _ _ (hL.same _ _ hh))] at hq; cases hq
        refine hQ _ q (ws ++ us.reverse) ((hL.same.trans (S1.trans (same_new hp))).trans (same_new hq)) hnew ?_ ?_ ?_ ?_ fun s => by rw [e]
        · rw [List.map_append]
          exact upd_same
        · rw [List.length_append]
          omega
        · rw [List.length_append, List.length_reverse]
          omega
        · intro z hz
          rcases List.mem_append.mp hz with h | h
          · exact h
          · exact hm z (List.mem_reverse.mp h)
    have own : (∀ s, at_ ws s = at_ (laid ws m) s) → Q (.ref r) H2 := fun e => hQ H2 r ws hL.same hL.new ha hws0 (by omega) (fun _ h => h) e
    refine ⟨_, rfl, _, _, rfl, Or.inl ⟨_, SqL.of ha, rfl⟩, rfl, _, rfl, ite2 (fun c => ?_) fun c => ?_⟩
    · have c' : (((ws.map V.str).length : Nat) : Int) = 1 := V.int.inj (of_decide_eq_true c)
      rw [List.length_map] at c'
      obtain ⟨z, hz⟩ := List.length_eq_one_iff.mp (show ws.length = 1 by omega)
      refine ⟨_, rfl, own fun s => ?_⟩
      rw [hz]
      exact laid_lone z m s
    refine ⟨_, rfl, rfl, _, rfl, ite2 (fun c => ?_) fun c => ?_⟩
    · have c' : m = "run" := V.str.inj (of_decide_eq_true c)
      refine ⟨_, rfl, own fun s => ?_⟩
      rw [c', laid_run]
    have c0 : ¬ m = "run" := fun h => c (decide_eq_true (congrArg V.str h))
    refine ⟨_, rfl, rfl, _, rfl, ite2 (fun c => ?_) fun c => ?_⟩
    · have c' : m = "pivot" := V.str.inj (of_decide_eq_true c)
      refine ⟨_, rfl, _, rfl, _, rfl, _, rfl, _, rfl, r, _, rfl, SqL.of ha, fun p hp => ?_⟩
      rw [cutV_map]
      exact ⟨p, _, rfl, SqL.of upd_same, fin (same_new hp) (cutL_length _ _ _) (fun u => cutL_mem) (by unfold laid; rw [if_pos c'])⟩
    have c1 : ¬ m = "pivot" := fun h => c (decide_eq_true (congrArg V.str h))
    refine ⟨_, rfl, rfl, _, rfl, ite2 (fun c => ?_) fun c => ?_⟩
    · have c' : m = "fold" := V.str.inj (of_decide_eq_true c)
      exact ⟨_, rfl, _, rfl, r, _, rfl, SqL.of ha, fin (Same.refl H2) (Nat.le_refl _) (fun _ h => h) (by unfold laid; rw [if_neg c1, if_pos c'])⟩
    have c2 : ¬ m = "fold" := fun h => c (decide_eq_true (congrArg V.str h))
    refine ⟨_, rfl, rfl, _, rfl, ite2 (fun c => ?_) fun c => ?_⟩
    · have c' : m = "left" := V.str.inj (of_decide_eq_true c)
      refine ⟨_, rfl, _, rfl, _, rfl, ?_⟩
      dsimp only [tNoPart]
      refine ⟨r, _, rfl, SqL.of ha, fun p hp => ?_⟩
      rw [cutV_map]
      exact ⟨p, _, rfl, SqL.of upd_same, fin (same_new hp) (cutL_length _ _ _) (fun u => cutL_mem) (by unfold laid; rw [if_neg c1, if_neg c2, if_pos c'])⟩
    have c3 : ¬ m = "left" := fun h => c (decide_eq_true (congrArg V.str h))
    have c4 : m = "right" := by
      have h := List.contains_iff_mem.mp hman
      unfold manners at h
      simp only [List.mem_cons, List.not_mem_nil, or_false] at h
      rcases h with h | h | h | h | h
      · exact absurd h c0
      · exact absurd h c1
      · exact absurd h c2
      · exact absurd h c3
      · exact h
    refine ⟨_, rfl, _, rfl, _, rfl, _, rfl, r, _, rfl, SqL.of ha, fun p hp => ?_⟩
    rw [cutV_map]
    exact ⟨p, _, rfl, SqL.of upd_same, fin (same_new hp) (cutL_length _ _ _) (fun u => cutL_mem) (by unfold laid; rw [if_neg c1, if_neg c2, if_neg c3, if_pos c4])⟩
end
/-! ## the least round by repeating -/
def spLRound : Sp := fun vs H Q _ => ∃ (a : Addr) (ws : List Str), vs = [.ref a] ∧ H a = some (.lst (ws.map V.str)) ∧ 0 < ws.length ∧ ws.length ≤ 1000 ∧ (∀ z ∈ ws, isSh z = true) ∧
  ∀ (H' : Hp) (r : Addr) (k : Nat), Least ws k → Same H H' → H' r = some (.lst ((ws.take k).map V.str)) → (H r = none ∨ r = a) → Q (.ref r) H'
section
variable {P : Program} {w : World} {K : PySem.W.Frag} {mg : Str → Option Value} {base : Heap}
def N__law_round : List Str := ["_law_words", "_law_size"]
theorem sc__law_round : FnScope N__law_round ["_law_words"] (defScope s__law_round) := ⟨rfl, rfl, rfl, by decide +kernel, rfl, by decide +kernel, by decide +kernel⟩
theorem ok__law_round (T : Txt K mg) : FnOk P w K mg base CX0 2 (ga K "_law_round") (fdOf K "_law_round") ["_law_words"] spLRound := by
  refine T.F__law_round.ok sc__law_round (fun vs H Q E h => ?_) (fun cdv A outer s H vs Q E hr h => ?_)
  · obtain ⟨a, ws, rfl, _⟩ := h
    rfl
  · obtain ⟨a, ws, rfl, ha, h0, hl, hsh, hQ⟩ := h
    obtain ⟨k0, hk0⟩ := least_ex h0
    have hk1 := hk0.pos
    have hk2 := hk0.le
    have hml : (ws.map V.str).length = ws.length := List.length_map ..
    refine ⟨_, PSs.nox (pss_cons (ps_for PassesOwn.never rfl (pi_range2 (by rfl) T.f_range (pa_cons pe_int (pa_cons (pe_callB call_len (by rfl) T.f_len (by decide +kernel) (pa_cons (pv 0) pa_nil)) pa_nil))) (pg_name (i := 1) sc__law_round.nd rfl (Or.inl rfl))
    (pss_one (ps_if (PW.pt (pw_and (pt_cmpR op_eq (pe_op op_mod (pe_callB call_len (by rfl) T.f_len (by decide +kernel) (pa_cons (pv 0) pa_nil)) (pv 1)) pe_int (nomark _)) (pw_and1 (pt_cmpR (op_eqD hr.units) (pe_op op_rep (pe_slice sl_list (pv 0) po_none (po_some (pv 1))) (pe_op op_fdiv (pe_callB call_len (by rfl) T.f_len (by decide +kernel) (pa_cons (pv 0) pa_nil)) (pv 1))) (pv 0) (nomark _)))))
     (pss_one (ps_ret (pe_slice sl_list (pv 0) po_none (po_some (pv 1)))))
     pss_nil)))
    (pss_one (ps_ret (pv 0)))), ?_⟩
    refine ⟨_, rfl, _, _, rfl, Or.inl ⟨_, SqL.of ha, rfl⟩, 1, (ws.length : Int), ?_, ⟨by decide, by decide, by omega, by omega⟩, ?_⟩
    · rw [hml]
    refine for_it (walk_range (lo := 1) (n := ((ws.length : Int) - 1).toNat)) (fun i σ H' => ∃ u1, σ = [some (.ref a), u1] ∧ Same H H' ∧ i + 1 ≤ k0) ⟨none, rfl, Same.refl H, by omega⟩ (fun _ _ _ _ _ => True.intro) (fun i x σ H1 H2 hi hP hy => ?_) fun σ H1 hP => ?_
    · obtain ⟨u1, rfl, S1, hi0⟩ := hP
      obtain ⟨rfl, rfl⟩ := hy
      have ha1 := S1 _ _ ha
      have hx : (1 : Int) + (i : Nat) = ((i + 1 : Nat) : Int) := by omega
      have hin : i + 1 < ws.length := by omega
      dsimp only
      rw [hx]
      refine ⟨_, rfl, _, _, rfl, Or.inl ⟨_, SqL.of ha1, rfl⟩, _, rfl, _, _, rfl, rfl, (by show (0 : Int) < ((i + 1 : Nat) : Int); omega), rfl, _, rfl, ?_⟩
      rw [hml]
      have hno : k0 ≠ i + 1 → i + 1 + 1 ≤ k0 := fun h => by omega
      refine ite2 (fun c => ?_) fun c => ?_
      · have c' : ((ws.length : Nat) : Int) % ((i + 1 : Nat) : Int) = 0 := V.int.inj (of_decide_eq_true c)
        have hmod : ws.length % (i + 1) = 0 := by omega
        have hdm := Nat.div_add_mod ws.length (i + 1)
        rw [hmod, Nat.add_zero] at hdm
        refine ⟨_, rfl, _, rfl, _, rfl, a, _, rfl, SqL.of ha1, fun p hp => ?_⟩
        rw [cutV_map, cutL_to ws (by omega)]
        refine ⟨_, rfl, _, _, rfl, Or.inl ⟨_, SqL.of (same_new hp _ _ ha1), rfl⟩, _, rfl, _, _, rfl, rfl, ⟨by show (0 : Int) < ((i + 1 : Nat) : Int); omega, by show ((i + 1 : Nat) : Int) < 1073741824; omega⟩, ?_⟩
        rw [hml]
        have hq : (((ws.length : Nat) : Int) / ((i + 1 : Nat) : Int)).toNat = ws.length / (i + 1) := by
          rw [← Int.natCast_ediv]
          rfl
        refine ⟨p, _, _, rfl, rfl, upd_same, ?_, ?_, ?_, fun q hq1 => ?_⟩
        · rw [← Int.natCast_ediv]
          omega
        · rw [← Int.natCast_ediv]
          have := Nat.div_le_self ws.length (i + 1)
          omega
        · rw [hq, List.length_map, List.length_take, Nat.min_eq_left (by omega), hdm]
          exact smallE (by omega)
        rw [hq, ← List.map_replicate, ← List.map_flatten]
        have hrs : ∀ z ∈ (List.replicate (ws.length / (i + 1)) (ws.take (i + 1))).flatten, isSh z = true := fun z hz => by
          obtain ⟨m', hm', hz'⟩ := List.mem_flatten.mp hz
          rw [List.eq_of_mem_replicate hm'] at hz'
          exact hsh z (List.mem_of_mem_take hz')
        have S3 := (same_new (o := .lst ((ws.take (i + 1)).map V.str)) hp).trans (same_new (o := .lst (((List.replicate (ws.length / (i + 1)) (ws.take (i + 1))).flatten).map V.str)) hq1)
        have hit : (upd (upd H2 p (.lst ((ws.take (i + 1)).map V.str))) q (.lst (((List.replicate (ws.length / (i + 1)) (ws.take (i + 1))).flatten).map V.str))) q = some (.lst (((List.replicate (ws.length / (i + 1)) (ws.take (i + 1))).flatten).map V.str)) := upd_same
        generalize upd (upd H2 p (.lst ((ws.take (i + 1)).map V.str))) q (.lst (((List.replicate (ws.length / (i + 1)) (ws.take (i + 1))).flatten).map V.str)) = H3 at *
        have ha3 := S3 _ _ ha1
        refine ⟨_, rfl, .list ((List.replicate (ws.length / (i + 1)) (ws.take (i + 1))).flatten.map PyData.str), .list (ws.map PyData.str), .lst (SqL.of hit) (dp_strs _ _ _), .lst (SqL.of ha3) (dp_strs _ _ _), shaped_strs hrs, shaped_strs hsh, _, rfl, ?_⟩
        rw [eqv_lsts]
        by_cases e : (List.replicate (ws.length / (i + 1)) (ws.take (i + 1))).flatten = ws
        · rw [decide_eq_true e]
          refine iteT ?_
          have hk : k0 = i + 1 := by
            obtain ⟨m, hm⟩ : ∃ m, ws.length / (i + 1) = m + 1 := ⟨ws.length / (i + 1) - 1, by
              have : ws.length / (i + 1) ≠ 0 := fun z => by rw [z, Nat.mul_zero] at hdm; omega
              omega⟩
            rw [hm] at e
            have h1 := rep_rot (by omega) e
            rcases Nat.lt_or_ge (i + 1) k0 with g | g
            · exact absurd h1 (hk0.no _ (by omega) g)
            · omega
          refine ⟨_, rfl, _, rfl, _, rfl, a, _, rfl, SqL.of ha3, fun p2 hp2 => ?_⟩
          rw [cutV_map, cutL_to ws (by omega)]
          have hnew : H p2 = none := by
            cases hh : H p2 with
            | none => rfl
            | some o => rw [S3 _ _ (S1 _ _ hh)] at hp2; cases hp2
          exact hQ _ p2 (i + 1) (hk ▸ hk0) ((S1.trans S3).trans (same_new hp2)) upd_same (Or.inl hnew)
        · rw [decide_eq_false e]
          refine iteF ?_
          refine ⟨_, rfl, S1.trans S3, hno fun hk => e ?_⟩
          rw [hk] at hk0
          rw [Least.rep hk0 _ (by rw [Nat.mul_comm, hdm]; exact Nat.le_refl _), Nat.mul_comm, hdm, List.take_length]
      · refine ⟨_, rfl, S1, hno fun hk => ?_⟩
        rw [hk] at hk0
        have hd := Least.dvd hk0
        refine c (decide_eq_true (congrArg V.int (?_ : ((ws.length : Nat) : Int) % ((i + 1 : Nat) : Int) = 0)))
        omega
    · obtain ⟨u1, rfl, S1, hi0⟩ := hP
      have hk : k0 = ws.length := by omega
      refine ⟨_, rfl, hQ _ a k0 hk0 S1 ?_ (Or.inr rfl)⟩
      rw [hk, List.take_length]
      exact S1 _ _ ha
end
end S11

namespace S11
open PySem PySem.Spec PyProof.Rows L2 L2.Own He Sl
/-! ## lists of a row's threads, spun -/
def spTA (K : PySem.W.Frag) : Sp := fun vs H Q _ => ∃ (a : Addr) (r : List Str), vs = [.ref a] ∧ H a = some (.lst (r.map V.str)) ∧ 0 < r.length ∧ r.length ≤ 1000 ∧
  ∀ (H' : Hp) (l : Addr), Same H H' → H l = none → H' l = some (.lst ((((List.range r.length).map fun j => at_ r (0 - (j : Nat)))).map V.str)) → Q (.ref l) H'
def spRowOf (K : PySem.W.Frag) : Sp := fun vs H Q _ => ∃ (a : Addr) (r : List Str), vs = [.ref a] ∧ H a = some (.lst (r.map V.str)) ∧ RowOk r ∧
  ∀ (H' : Hp) (b : Addr), Same H H' → H b = none → RowAt K H' b r → Q (.ref b) H'
section
variable {P : Program} {w : World} {K : PySem.W.Frag} {mg : Str → Option Value} {base : Heap}
def spDrawn (K : PySem.W.Frag) : Sp := fun vs H Q _ => ∃ (p : Addr), vs = [.ref p, .int 4, .int 3] ∧ PoolB H p ∧
  ∀ (H' : Hp) (t b l : Addr) (r : List Str), But p H H' → H' t = some (.tup [.ref b, .ref l]) → RowAt K H' b r → H' l = some (.lst (r.map V.str)) → Q (.ref t) H'
def N__law_drawn : List Str := ["_law_pool_here", "_law_upto", "_law_wide", "_law_parts_here", "_law_tack", "_law_begun", "_law_words", "_law_at"]
theorem sc__law_drawn : FnScope N__law_drawn ["_law_pool_here", "_law_upto", "_law_wide"] (defScope s__law_drawn) := ⟨rfl, rfl, rfl, by decide +kernel, rfl, by decide +kernel, by decide +kernel⟩
theorem ok__law_drawn (T : Txt K mg) : FnOk P w K mg base CX0 8 (ga K "_law_drawn") (fdOf K "_law_drawn") ["_law_pool_here", "_law_upto", "_law_wide"] (spDrawn K) := by
  have G__law_take := ok__law_take (P := P) (w := w) (base := base) T
  have G__law_far := ok__law_far (P := P) (w := w) (base := base) T
  have G__law_parts := ok__law_parts (P := P) (w := w) (base := base) T
  have G__law_word := ok__law_word (P := P) (w := w) (base := base) T
  have G__law_round := ok__law_round (P := P) (w := w) (base := base) T
  have G_Row___init__ := ok_Row___init__ (P := P) (w := w) (base := base) T
  obtain ⟨ds4, b4_Row___init__⟩ := T.b4_Row___init__
  refine T.F__law_drawn.ok sc__law_drawn (fun vs H Q E h => ?_) (fun cdv A outer s H vs Q E hr h => ?_)
  · obtain ⟨p, rfl, _⟩ := h
    rfl
  · obtain ⟨p, rfl, hpool, hQ⟩ := h
    refine ⟨_, PSs.nox (pss_cons (ps_set (i := 3) sc__law_drawn.nd rfl (Or.inl rfl) (pe_call G__law_parts (hr.mono (by decide)) (by rfl) T.g__law_parts T.F__law_parts.kp T.b__law_parts .nil pass0 (pa_cons (pv 0) (pa_cons (pv 1) (pa_cons (pv 2) pa_nil)))))
    (pss_cons (ps_set (i := 4) sc__law_drawn.nd rfl (Or.inl rfl) (pe_ix ix_list (pe_lst (pa_cons pe_str (pa_cons pe_str (pa_cons pe_str (pa_cons pe_str (pa_cons pe_str (pa_cons pe_str pa_nil))))))) (pe_call G__law_take (hr.mono (by decide)) (by rfl) T.g__law_take T.F__law_take.kp T.b__law_take .nil pass0 (pa_cons (pv 0) (pa_cons pe_int pa_nil))) (fun _ _ => rfl)))
    (pss_cons (ps_set (i := 5) sc__law_drawn.nd rfl (Or.inr rfl) (pe_ix ix_list (pe_lst (pa_cons pe_int (pa_cons (pe_op op_sub (pe_call G__law_take (hr.mono (by decide)) (by rfl) T.g__law_take T.F__law_take.kp T.b__law_take .nil pass0 (pa_cons (pv 0) (pa_cons pe_int pa_nil))) pe_int) (pa_cons (pe_call G__law_far (hr.mono (by decide)) (by rfl) T.g__law_far T.F__law_far.kp T.b__law_far .nil pass0 (pa_cons (pv 0) (pa_cons pe_int pa_nil))) pa_nil)))) (pe_call G__law_take (hr.mono (by decide)) (by rfl) T.g__law_take T.F__law_take.kp T.b__law_take .nil pass0 (pa_cons (pv 0) (pa_cons pe_int pa_nil))) (fun _ _ => rfl)))
    (pss_cons (ps_set (i := 6) sc__law_drawn.nd rfl (Or.inr rfl) (pe_call G__law_round (hr.mono (by decide)) (by rfl) T.g__law_round T.F__law_round.kp T.b__law_round .nil pass0 (pa_cons (pe_call G__law_word (hr.mono (by decide)) (by rfl) T.g__law_word T.F__law_word.kp T.b__law_word .nil pass0 (pa_cons (pv 3) (pa_cons (pv 4) pa_nil))) pa_nil)))
    (pss_one (ps_ret (pe_tup (pa_cons (pe_make T.mk_Row G_Row___init__ (hr.mono (by decide)) (by rfl) T.c_Row b4_Row___init__.2 b4_Row___init__.1 pass0 (pa_cons (pv 3) (pa_cons (pv 4) (pa_cons (pv 5) pa_nil)))) (pa_cons (pe_lc (own := [("_law_at", 7)]) rfl sc__law_drawn.nd (pi_range1 (by rfl) T.f_range (pa_cons (pe_callB call_len (by rfl) T.f_len (by decide +kernel) (pa_cons (pv 6) pa_nil)) pa_nil)) (blkOk_by (own := [("_law_at", 7)]) (N := N__law_drawn) (sc := defScope s__law_drawn) (by decide +kernel)) (fun _ _ _ _ _ => (pg_name (i := 7) sc__law_drawn.nd rfl (Or.inl rfl))) (fun _ _ _ _ _ => pts_nil) (fun _ _ _ _ _ => (pe_ix (ix_listK (K := K) rfl) (pv 6) (pe_op op_mod (pe_op op_add (pv 7) (pv 5)) (pe_callB (call_lenK (K := K) rfl) (by rfl) T.f_len (by decide +kernel) (pa_cons (pv 6) pa_nil))) (fun _ _ => rfl)))) pa_nil))))))))), ?_⟩
    refine ⟨_, rfl, _, rfl, _, rfl, p, 4, 3, rfl, hpool, by decide, by decide, by decide, by decide, fun H1 t0 ps m b1 q1 ht0 hps hm0 hpos hsh htot => ?_⟩
    have htot' : total m ≤ 75 := Nat.le_trans htot (by decide)
    refine ⟨by show 6 ≤ sizeLine; decide, fun c1 hc1 => ?_⟩
    have hc1p := q1.ne hc1
    refine ⟨_, rfl, p, 6, rfl, q1.new hc1, by decide, by decide, fun e H2 e0 e1 b2 q2 => ?_⟩
    have hat : ∃ v : Str, atI [V.str "run", V.str "run", V.str "pivot", V.str "fold", V.str "left", V.str "right"] e = some (.str v) ∧ manners.contains v = true := by
      rcases (show e = 0 ∨ e = 1 ∨ e = 2 ∨ e = 3 ∨ e = 4 ∨ e = 5 by omega) with z | z | z | z | z | z
      · exact ⟨"run", by rw [z]; rfl, by decide +kernel⟩
      · exact ⟨"run", by rw [z]; rfl, by decide +kernel⟩
      · exact ⟨"pivot", by rw [z]; rfl, by decide +kernel⟩
      · exact ⟨"fold", by rw [z]; rfl, by decide +kernel⟩
      · exact ⟨"left", by rw [z]; rfl, by decide +kernel⟩
      · exact ⟨"right", by rw [z]; rfl, by decide +kernel⟩
    obtain ⟨tack, htack, hman⟩ := hat
    refine ⟨c1, _, _, _, rfl, rfl, SqL.of (b2 _ _ hc1p upd_same), htack, ?_⟩
    have S1 := same_new (o := .lst [V.str "run", V.str "run", V.str "pivot", V.str "fold", V.str "left", V.str "right"]) hc1
    have b12 : But p H1 H2 := (But.of S1).trans b2
    have htp : t0 ≠ p := fun e => by
      obtain ⟨xs, hx⟩ := q1.lst
      rw [← e, ht0] at hx
      cases hx
    refine ⟨_, rfl, p, 20, rfl, q2, by decide, by decide, fun d H3 d0 d1 b3 q3 => ?_⟩
    refine ⟨_, _, rfl, rfl, _, rfl, p, 30, rfl, q3, by decide, by decide, fun n H4 n0 n1 b4 q4 => ?_⟩
    refine ⟨by show 3 ≤ sizeLine; decide, fun c2 hc2 => ?_⟩
    have hc2p := q4.ne hc2
    refine ⟨_, rfl, p, 3, rfl, q4.new hc2, by decide, by decide, fun g H5 g0 g1 b5 q5 => ?_⟩
    have hbeg : ∃ st : Int, atI [V.int 0, V.int (d - 9), V.int n] g = some (.int st) ∧ InSpot st := by
      have hb : big = (10 : Int) ^ 30 := by decide
      have hb1 : (0 : Int) < 100 ∧ (100 : Int) < big := by decide
      rcases (show g = 0 ∨ g = 1 ∨ g = 2 by omega) with z | z | z
      · exact ⟨0, by rw [z]; rfl, ⟨by omega, by omega⟩⟩
      · exact ⟨d - 9, by rw [z]; rfl, ⟨by omega, by omega⟩⟩
      · refine ⟨n, by rw [z]; rfl, ⟨?_, ?_⟩⟩
        · rw [hb]; omega
        · rw [hb]; omega
    obtain ⟨st, hst, hin⟩ := hbeg
    refine ⟨c2, _, _, _, rfl, rfl, SqL.of (b5 _ _ hc2p upd_same), hst, ?_⟩
    have b15 : But p H1 H5 := ((b12.trans b3).trans b4).trans ((But.of (same_new (o := .lst [V.int 0, V.int (d - 9), V.int n]) hc2)).trans b5)
    have ht5 := b15 _ _ htp ht0
    have hps5 : Prs H5 ps m := hps.mono (by obtain ⟨xs, hx⟩ := q1.lst; exact Tups.but hx b15)
    have b05 : But p H H5 := b1.trans b15
    refine ⟨_, rfl, _, rfl, t0, tack, ps, m, rfl, ht5, hps5, hm0, hpos, by omega, hman, fun H6 r6 xs S6 n6 h6 x0 xl xm xat => ?_⟩
    have xsh : ∀ z ∈ xs, isSh z = true := fun z hz => expand_shade hsh z (xm z hz)
    refine ⟨r6, xs, rfl, h6, x0, by omega, xsh, fun H7 r7 k hk S7 h7 _ => ?_⟩
    have hkl := hk.le
    have hW : RowOk (xs.take k) := hk.rowOk xsh (by omega)
    have wat : ∀ s, at_ (xs.take k) s = at_ (laid (expand m) tack) s := fun s => by rw [hk.at, xat]
    generalize xs.take k = ws at *
    have S57 := S6.trans S7
    have hw0 := hW.ne
    have hw1 := hW.most
    have hml : (ws.map V.str).length = ws.length := List.length_map ..
    refine ⟨_, rfl, _, rfl, _, rfl, fun x dx2 hx hdx2 ne => ?_⟩
    have S2 : Same H7 (upd (upd H7 dx2 (.own x)) x (.ins (ga K "Row") dx2 [])) := (same_new hdx2).trans (same_new (by rw [upd_ne (Ne.symm ne)]; exact hx))
    refine ⟨x, t0, tack, st, dx2, ps, m, rfl, upd_same, S2 _ _ (S57 _ _ ht5), hps5.mono (Tups.of (S57.trans S2)), ⟨hm0, hsh, hpos, by omega⟩, hman, hin, fun k hk => ?_, fun H8 q hq pres hrow => ⟨rfl, ?_⟩⟩
    · have h1 := hk.le
      have h2 := (laid_length (expand m) tack).2
      rw [expand_length] at h2
      omega
    have S78 : Same H7 H8 := fun b o hb => pres b o (fun e => by rw [e, hx] at hb; cases hb) (S2 _ _ hb)
    have h8 := S78 _ _ h7
    refine ⟨_, rfl, _, _, rfl, Or.inl ⟨_, SqL.of h8, rfl⟩, (ws.length : Int), ?_, by omega, by omega, ?_⟩
    · rw [hml]
    refine fun D hD => lc_it (walk_range (lo := 0) (n := (ws.length : Int).toNat)) (fun i H' => LcAt H8 D H' (((List.range i).map fun j => at_ ws ((j : Nat) + st)).map V.str)) (LcAt.start hD) (fun _ _ _ _ => True.intro) (fun i x Ha Hb hi hL hy => ?_) fun Ha hL => ?_
    · obtain ⟨rfl, rfl⟩ := hy
      have ha2 := hL.same _ _ h8
      refine ⟨rfl, _, rfl, _, rfl, _, rfl, _, _, rfl, rfl, _, rfl, _, _, rfl, Or.inl ⟨_, SqL.of ha2, rfl⟩, _, _, rfl, rfl, ?_, ?_⟩
      · show (0 : Int) < (((ws.map V.str).length : Nat) : Int)
        rw [hml]
        omega
      · refine ⟨r7, _, _, .str (at_ ws (0 + (i : Nat) + st)), rfl, rfl, SqL.of ha2, ?_, _, hL.it, ?_, ?_⟩
        · rw [hml]
          exact ix_at hw0 _
        · refine small ?_
          rw [List.length_map, List.length_map, List.length_range]
          omega
        · rw [range_more i (fun s => at_ ws (s + st)), show (0 : Int) + (i : Nat) + st = (i : Nat) + st by omega]
          exact hL.push
    · have e : ((List.range ws.length).map fun j => at_ ws ((j : Nat) + st)) = q := spun_shift hW hq.1 fun s => by rw [hq.2, wat]
      have hit := hL.it
      rw [show (ws.length : Int).toNat = ws.length from rfl, e] at hit
      refine ⟨by show 2 ≤ sizeLine; decide, fun tt htt => ?_⟩
      have S9 := same_new (o := .tup [.ref x, .ref D]) htt
      exact hQ _ tt x D q (b05.trans (But.of (((S57.trans S78).trans hL.same).trans S9))) upd_same (hrow.same (hL.same.trans S9)) (S9 _ _ hit)
end
end S11

namespace S11
open PySem PySem.Spec PyProof.Rows L2 L2.Own He Sl
/-! ## rounds that a piece shows -/
def PerL (p : List Str) (n : Nat) : Prop := p.drop n = p.take (p.length - n)
theorem perL_iff {p : List Str} {n : Nat} : PerL p n ↔ ∀ i, i + n < p.length → p[i + n]? = p[i]? := by
  unfold PerL
  constructor
  · intro h i hi
    have e := congrArg (fun l => l[i]?) h
    simp only [List.getElem?_drop, List.getElem?_take] at e
    rw [if_pos (by omega)] at e
    rw [Nat.add_comm]
    exact e
  · intro h
    apply List.ext_getElem?
    intro i
    rw [List.getElem?_drop, List.getElem?_take]
    split
    · rw [Nat.add_comm]
      exact h i (by omega)
    · exact List.getElem?_eq_none (by omega)
theorem take_at {p : List Str} {n : Nat} (h0 : 0 < n) (hn : n ≤ p.length) (h : PerL p n) : ∀ i : Nat, i < p.length → p[i]? = some (at_ (p.take n) (i : Nat)) := by
  have hl : (p.take n).length = n := by rw [List.length_take]; omega
  intro i
  induction i using Nat.strongRecOn with
  | _ i ih =>
    intro hi
    rcases Nat.lt_or_ge i n with q | q
    · have g := at_nat (ws := p.take n) (i := i) (by omega)
      rw [List.getElem?_take, if_pos q] at g
      exact g
    · have e := perL_iff.mp h (i - n) (by omega)
      rw [show i - n + n = i by omega] at e
      rw [e, ih (i - n) (by omega) (by omega)]
      congr 1
      rw [← at_per (p.take n) (((i - n : Nat) : Int)), hl]
      congr 1
      omega
/-- a piece shows a round of n threads -/
def Shows (p : List Str) (n : Nat) : Prop := PerL p n ∧ Least (p.take n) n
theorem shows_from {p : List Str} {n : Nat} (h0 : 0 < n) (hn : n ≤ p.length) (h : PerL p n) : fromTo (p.take n) 0 p.length = p := by
  apply List.ext_getElem?
  intro i
  rcases Nat.lt_or_ge i p.length with q | q
  · rw [fromTo_get q, take_at h0 hn h i q, Int.zero_add]
  · rw [List.getElem?_eq_none (by rw [fromTo_length]; exact q), List.getElem?_eq_none q]
noncomputable def shB (p : List Str) (n : Nat) : Bool := @decide (Shows p n) (Classical.propDecidable _)
theorem shB_iff {p : List Str} {n : Nat} : shB p n = true ↔ Shows p n := by
  unfold shB
  exact @decide_eq_true_iff _ (Classical.propDecidable _)
/-- the rows that can be, by their threads -/
noncomputable def cb (p : List Str) (most : Nat) : List (List Str) := ((List.range most).filter fun j => shB p (j + 1)).map fun j => p.take (j + 1)
theorem cb_more (p : List Str) (m : Nat) : cb p (m + 1) = cb p m ++ (if shB p (m + 1) = true then [p.take (m + 1)] else []) := by
  unfold cb
  rw [List.range_succ, List.filter_append, List.map_append]
  congr 1
  by_cases h : shB p (m + 1) = true
  · simp [h]
  · simp [h]
theorem cb_mem {p : List Str} {most : Nat} {r : List Str} : r ∈ cb p most ↔ ∃ n, 0 < n ∧ n ≤ most ∧ Shows p n ∧ r = p.take n := by
  unfold cb
  rw [List.mem_map]
  constructor
  · rintro ⟨j, hj, rfl⟩
    rw [List.mem_filter, List.mem_range, shB_iff] at hj
    exact ⟨j + 1, by omega, by omega, hj.2, rfl⟩
  · rintro ⟨n, h0, h1, h2, rfl⟩
    refine ⟨n - 1, ?_, by rw [Nat.sub_add_cancel h0]⟩
    rw [List.mem_filter, List.mem_range, Nat.sub_add_cancel h0, shB_iff]
    exact ⟨by omega, h2⟩
theorem cb_len (p : List Str) : ∀ m, (cb p m).length ≤ m
  | 0 => by simp [cb]
  | m + 1 => by
    have ih := cb_len p m
    rw [cb_more, List.length_append]
    split
    · simp only [List.length_singleton]; omega
    · simp only [List.length_nil]; omega
theorem cb_grow (p : List Str) {m n : Nat} (h : m ≤ n) : (cb p m).length ≤ (cb p n).length := by
  induction n with
  | zero => rw [Nat.le_zero.mp h]; exact Nat.le_refl _
  | succ n ih =>
    rcases Nat.lt_or_ge m (n + 1) with q | q
    · rw [cb_more, List.length_append]
      exact Nat.le_trans (ih (by omega)) (Nat.le_add_right _ _)
    · rw [show m = n + 1 by omega]; exact Nat.le_refl _
/-- rows told in a list -/
def RowsAt (K : PySem.W.Frag) (H : Hp) (as : List Addr) (rs : List (List Str)) : Prop := as.length = rs.length ∧ ∀ (j : Nat) a, as[j]? = some a → ∃ r, rs[j]? = some r ∧ RowAt K H a r
theorem RowsAt.same {K : PySem.W.Frag} {H H' : Hp} {as : List Addr} {rs : List (List Str)} (h : RowsAt K H as rs) (s : Same H H') : RowsAt K H' as rs := ⟨h.1, fun j a e => by
  obtain ⟨r, e1, e2⟩ := h.2 j a e
  exact ⟨r, e1, e2.same s⟩⟩
theorem RowsAt.but {K : PySem.W.Frag} {H H' : Hp} {q : Addr} {xs : List V} {as : List Addr} {rs : List (List Str)} (h : RowsAt K H as rs) (hq : H q = some (.lst xs)) (s : But q H H') : RowsAt K H' as rs := ⟨h.1, fun j a e => by
  obtain ⟨r, e1, e2⟩ := h.2 j a e
  exact ⟨r, e1, e2.butL hq s⟩⟩
theorem RowsAt.snoc {K : PySem.W.Frag} {H : Hp} {as : List Addr} {rs : List (List Str)} {a : Addr} {r : List Str} (h : RowsAt K H as rs) (ha : RowAt K H a r) : RowsAt K H (as ++ [a]) (rs ++ [r]) := by
  refine ⟨by rw [List.length_append, List.length_append, h.1]; rfl, fun j u e => ?_⟩
  rcases Nat.lt_trichotomy j as.length with q | q | q
  · rw [List.getElem?_append_left q] at e
    obtain ⟨r', e1, e2⟩ := h.2 j u e
    exact ⟨r', by rw [List.getElem?_append_left (by rw [← h.1]; exact q)]; exact e1, e2⟩
  · subst q
    have e1 : a = u := by simpa using e
    subst e1
    exact ⟨r, by rw [h.1]; simp, ha⟩
  · rw [List.getElem?_eq_none (by rw [List.length_append, List.length_singleton]; omega)] at e
    cases e
def spShows : Sp := fun vs H Q _ => ∃ (t : Addr) (p : List Str) (n : Nat), vs = [.ref t, .int (n : Nat)] ∧ H t = some (.tup (p.map V.str)) ∧ 0 < n ∧ n ≤ p.length ∧ p.length ≤ 240 ∧ (∀ z ∈ p, isSh z = true) ∧ ∀ H', Same H H' → Q (.bl (shB p n)) H'
def spCan (K : PySem.W.Frag) : Sp := fun vs H Q _ => ∃ (a : Addr) (p : List Str) (v : V) (most : Nat), vs = [.ref a, v] ∧ PieceAt K H a p ∧ (v = .int (most : Nat) ∨ (v = .non ∧ most = p.length)) ∧ 0 < most ∧ most ≤ p.length ∧
  ∀ (H' : Hp) (l : Addr) (as : List Addr), Same H H' → H l = none → H' l = some (.lst (as.map V.ref)) → RowsAt K H' as (cb p most) → Q (.ref l) H'
section
variable {P : Program} {w : World} {K : PySem.W.Frag} {mg : Str → Option Value} {base : Heap}
/- slots: 0 threads, 1 size -/
def N_shows_round : List Str := ["threads", "size"]
theorem sc_shows_round : FnScope N_shows_round ["threads", "size"] (defScope s_shows_round) := ⟨rfl, rfl, rfl, by decide +kernel, rfl, by decide +kernel, by decide +kernel⟩
theorem ok_shows_round (T : Txt K mg) : FnOk P w K mg base CX0 4 (ga K "shows_round") (fdOf K "shows_round") ["threads", "size"] (spShows) := by
  have G_least_round := ok_least_round (P := P) (w := w) (base := base) T
  refine T.F_shows_round.ok sc_shows_round (fun vs H Q E h => ?_) (fun cdv A outer s H vs Q E hr h => ?_)
  · obtain ⟨t, p, n, rfl, _⟩ := h
    rfl
  · obtain ⟨t, p, n, rfl, ht, n0, n1, p1, hs, hQ⟩ := h
    refine ⟨_, PSs.nox (pss_cons (ps_if (pt_cmpR (op_neD hr.units) (pe_slice sl_tupA (pv 0) (po_some (pv 1)) po_none) (pe_slice sl_tupA (pv 0) po_none (po_some (pe_op op_sub (pe_callB call_len (by rfl) T.f_len (by decide +kernel) (pa_cons (pv 0) pa_nil)) (pv 1)))) (nomark _))
    (pss_one (ps_ret pe_bl))
    pss_nil)
    (pss_one (ps_ret (pe_cmpR op_eq (pe_callB call_len (by rfl) T.f_len (by decide +kernel) (pa_cons (pe_call G_least_round (hr.mono (by decide)) (by rfl) T.g_least_round T.F_least_round.kp T.b_least_round .nil pass0 (pa_cons (pe_slice sl_tupA (pv 0) po_none (po_some (pv 1))) pa_nil)) pa_nil)) (pv 1) (nomark _))))), ?_⟩
    have hml : (p.map V.str).length = p.length := List.length_map ..
    have hd : ∀ z ∈ p.drop n, isSh z = true := fun z hz => hs z (List.mem_of_mem_drop hz)
    have htk : ∀ k, ∀ z ∈ p.take k, isSh z = true := fun k z hz => hs z (List.mem_of_mem_take hz)
    refine ⟨_, rfl, _, rfl, _, rfl, ?_⟩
    dsimp only [tNoPart]
    refine slA_of (K := K) ht fun H1 t1 S1 h1 => ?_
    rw [cutV_map, cutL_from p n1] at h1
    refine ⟨_, rfl, _, rfl, _, _, rfl, Or.inr ⟨_, SqT.of (S1 _ _ ht), rfl⟩, _, rfl, _, _, rfl, rfl, _, rfl, slA_of (S1 _ _ ht) fun H2 t2 S2 h2 => ?_⟩
    rw [cutV_map, hml, show ((p.length : Nat) : Int) - ((n : Nat) : Int) = ((p.length - n : Nat) : Int) by omega, cutL_to p (Nat.sub_le _ _)] at h2
    refine ⟨.tuple ((p.drop n).map PyData.str), .tuple ((p.take (p.length - n)).map PyData.str), .tup (SqT.of (S2 _ _ h1)) (dp_strs _ _ _), .tup (SqT.of h2) (dp_strs _ _ _), shaped_strsT hd, shaped_strsT (htk _), _, rfl, ?_⟩
    rw [eqv_tups]
    by_cases e : p.drop n = p.take (p.length - n)
    · rw [decide_eq_true e]
      refine iteF ?_
      have S12 := S1.trans S2
      refine ⟨_, rfl, _, rfl, _, rfl, slA_of (S12 _ _ ht) fun H3 t3 S3 h3 => ?_⟩
      rw [cutV_map, cutL_to p n1] at h3
      have hln : (p.take n).length = n := by rw [List.length_take]; omega
      refine ⟨t3, p.take n, rfl, h3, by omega, by omega, htk n, fun H4 t4 k hk S4 h4 => ?_⟩
      refine ⟨_, _, rfl, Or.inr ⟨_, SqT.of h4, rfl⟩, _, rfl, rfl, ?_⟩
      have hkn := hk.le
      have el : (((p.take n).take k).map V.str).length = k := by rw [List.length_map, List.length_take]; omega
      have eb : decide (V.int (((((p.take n).take k).map V.str).length : Nat) : Int) = V.int ((n : Nat) : Int)) = shB p n := by
        rw [el, Bool.eq_iff_iff, decide_eq_true_iff, shB_iff]
        constructor
        · intro q
          have q := V.int.inj q
          have q2 : k = n := by omega
          rw [q2] at hk
          exact ⟨e, hk⟩
        · intro q
          rw [Least.unique hk q.2]
      show Q (.bl (decide (V.int (((((p.take n).take k).map V.str).length : Nat) : Int) = V.int ((n : Nat) : Int)))) H4
      rw [eb]
      exact hQ _ (S12.trans (S3.trans S4))
    · rw [decide_eq_false e]
      refine iteT ?_
      have eb : shB p n = false := by
        cases h : shB p n with
        | false => rfl
        | true => exact absurd (shB_iff.mp h).1 e
      have := hQ _ (S1.trans S2)
      rw [eb] at this
      exact this
/- slots: 0 piece, 1 most, 2 threads, 3 size; cells threads -/
def N_can_be : List Str := ["piece", "most", "threads", "size"]
theorem sc_can_be : FnScope N_can_be ["piece", "most"] (defScope s_can_be) := ⟨rfl, rfl, rfl, by decide +kernel, rfl, by decide +kernel, by decide +kernel⟩
theorem ok_can_be (T : Txt K mg) : FnOk P w K mg base CX0 11 (ga K "can_be") (fdOf K "can_be") ["piece", "most"] (spCan K) := by
  have G_Piece_threads := ok_Piece_threads (P := P) (w := w) (base := base) T
  have G_check_number := ok_check_number (P := P) (w := w) (base := base) T
  have G_shows_round := ok_shows_round (P := P) (w := w) (base := base) T
  have G_row_of_threads := ok_row_of_threads (P := P) (w := w) (base := base) T
  refine T.F_can_be.ok sc_can_be (fun vs H Q E h => ?_) (fun cdv A outer s H vs Q E hr h => ?_)
  · obtain ⟨a, p, v, most, rfl, _⟩ := h
    rfl
  · obtain ⟨a, p, v, most, rfl, hA, hv, m0, m1, hQ⟩ := h
    refine ⟨_, PSs.nox (pss_cons (ps_set (i := 2) sc_can_be.nd rfl (Or.inr rfl) (pe_meth0 (pv 0) T.cl_Piece T.M_Piece_threads G_Piece_threads (hr.mono (by decide)) T.b_Piece_threads .nil pass0))
    (C8.pss_cut (ps_if (pt_cmpR op_isN (pv 1) pe_non (nomark _))
    (pss_one (ps_set (i := 1) sc_can_be.nd rfl (Or.inl rfl) (pe_callB call_len (by rfl) T.f_len (by decide +kernel) (pa_cons (pv 2) pa_nil))))
    pss_nil)
    (pss_cons (ps_expr (pe_call G_check_number (hr.mono (by decide)) (by rfl) T.g_check_number T.F_check_number.kp T.b_check_number .nil pass0 (pa_cons (pv 1) (pa_cons pe_int (pa_cons (pe_callB call_len (by rfl) T.f_len (by decide +kernel) (pa_cons (pv 2) pa_nil)) pa_nil)))))
    (pss_one (ps_ret (pe_lc (own := [("size", 3)]) rfl sc_can_be.nd (pi_range2 (by rfl) T.f_range (pa_cons pe_int (pa_cons (pe_op op_add (pv 1) pe_int) pa_nil))) (blkOk_by (own := [("size", 3)]) (N := N_can_be) (sc := defScope s_can_be) (by decide +kernel)) (fun _ _ _ _ _ => (pg_name (i := 3) sc_can_be.nd rfl (Or.inl rfl))) (fun _ _ _ _ _ => (pts_one (pt_val (pe_call G_shows_round (hr.mono (by decide)) (by rfl) T.g_shows_round T.F_shows_round.kp T.b_shows_round .nil pass0 (pa_cons (pv 2) (pa_cons (pv 3) pa_nil)))))) (fun _ _ _ _ _ => (pe_call G_row_of_threads (hr.mono (by decide)) (by rfl) T.g_row_of_threads T.F_row_of_threads.kp T.b_row_of_threads .nil pass0 (pa_cons (pe_slice (sl_tupAK (K := K) rfl) (pv 2) po_none (po_some (pv 3))) pa_nil))))))))), ?_⟩
    obtain ⟨hf, dx, t, ha, ht⟩ := id hA
    have p1 := hf.most
    have hs := hf.sh
    have hml : (p.map V.str).length = p.length := List.length_map ..
    refine ⟨_, rfl, a, dx, _, rfl, ha, rfl, a, p, rfl, hA, fun t2 ht2 => ?_⟩
    refine ⟨fun σ H' => σ = [some (.ref a), some (.int (most : Nat)), some (.ref t2), none] ∧ H' = H, ?_, fun σ H1 hM => ?_⟩
    · rcases hv with rfl | ⟨rfl, rfl⟩
      · exact ⟨_, rfl, rfl, _, rfl, ite2 (fun g => absurd (of_decide_eq_true g) (fun h => nomatch h)) fun _ => ⟨rfl, rfl⟩⟩
      · refine ⟨_, rfl, rfl, _, rfl, ite2 (fun _ => ?_) fun g => absurd rfl g⟩
        refine ⟨_, rfl, _, _, rfl, Or.inr ⟨_, SqT.of ht2, rfl⟩, ?_, rfl⟩
        rw [hml]
        rfl
    obtain ⟨rfl, rfl⟩ := hM
    refine ⟨_, rfl, _, rfl, _, _, rfl, Or.inr ⟨_, SqT.of ht2, rfl⟩, ((most : Nat) : Int), 1, _, rfl, by omega, by rw [hml]; omega, ?_⟩
    refine ⟨_, rfl, _, _, rfl, rfl, 1, ((most : Nat) : Int) + 1, rfl, ⟨by decide, by decide, by omega, by omega⟩, ?_⟩
    refine fun D hD => lc_it (walk_range (lo := 1) (n := (((most : Nat) : Int) + 1 - 1).toNat)) (fun i H' => ∃ as : List Addr, LcAt H1 D H' (as.map V.ref) ∧ RowsAt K H' as (cb p i)) ⟨[], LcAt.start hD, rfl, fun j b e => by simp at e⟩ (fun _ _ _ _ => True.intro) (fun i x Ha Hb hi hP hy => ?_) fun Ha hP => ?_
    · obtain ⟨as, hL, hR⟩ := hP
      obtain ⟨rfl, rfl⟩ := hy
      have hi' : i < most := by
        have : i < (((most : Nat) : Int) + 1 - 1).toNat := hi
        omega
      have e1 : (1 + ((i : Nat) : Int)) = ((i + 1 : Nat) : Int) := by omega
      have ht3 := hL.same _ _ ht2
      refine ⟨rfl, _, rfl, _, rfl, t2, p, i + 1, by rw [← e1]; rfl, ht3, by omega, by omega, p1, hs, fun Hc Sc => ⟨_, rfl, ?_⟩⟩
      have hL2 := hL.keep Sc
      rw [cb_more]
      cases hb : shB p (i + 1) with
      | false =>
        refine iteF ⟨as, hL2, ?_⟩
        rw [if_neg (by decide), List.append_nil]
        exact hR.same Sc
      | true =>
        refine iteT ?_
        have hS := shB_iff.mp hb
        refine ⟨_, rfl, _, rfl, _, rfl, slA_of (K := K) (Sc _ _ ht3) fun Hd td Sd hd => ?_⟩
        rw [cutV_map, e1, cutL_to p (by omega)] at hd
        have hln : (p.take (i + 1)).length = i + 1 := by rw [List.length_take]; omega
        have hrow' : RowOk (p.take (i + 1)) := by
          have := hS.2.rowOk (fun z hz => hs z (List.mem_of_mem_take hz)) (by omega)
          rw [List.take_take, Nat.min_self] at this
          exact this
        refine ⟨td, p.take (i + 1), rfl, hd, by omega, by omega, hrow'.sh, fun He b r hr hl Se nb hrow => ?_⟩
        have er : r = p.take (i + 1) := RowOk.unique hr.1 hrow' hr.2
        subst er
        have hL3 := hL2.keep (Sd.trans Se)
        have hR3 := hR.same (Sc.trans (Sd.trans Se))
        have bD : But D He (upd He D (.lst (as.map V.ref ++ [.ref b]))) := fun c o hc e => by
          rw [upd_ne hc]
          exact e
        have hcl := cb_len p i
        refine ⟨_, hL3.it, small (by rw [List.length_map, hR.1]; omega), as ++ [b], ?_, ?_⟩
        · rw [List.map_append]
          exact hL3.push
        · rw [if_pos rfl]
          exact (hR3.snoc hrow).but hL3.it bD
    · obtain ⟨as, hL, hR⟩ := hP
      have en : (((most : Nat) : Int) + 1 - 1).toNat = most := by omega
      rw [en] at hR
      exact hQ _ D as hL.same hD hL.it hR
end
end S11

namespace S11
open PySem PySem.Spec PyProof.Rows L2 L2.Own He Sl
/-! ## how far a row agrees with itself -/
def Run (r : List Str) (b s : Int) (w : Nat) : Prop := ∀ i : Nat, i < w → at_ r (s + (i : Nat)) = at_ r (s + (i : Nat) + b)
def AgrMax (r : List Str) (b : Int) (k : Nat) : Prop := (∃ s : Int, Run r b s k) ∧ ∀ (s : Int) (w : Nat), Run r b s w → w ≤ k
theorem AgrMax.one {r : List Str} {b : Int} {j k : Nat} (h : AgrMax r b j) (g : AgrMax r b k) : j = k := by
  obtain ⟨⟨s, hs⟩, h2⟩ := h
  obtain ⟨⟨t, ht⟩, g2⟩ := g
  exact Nat.le_antisymm (g2 s j hs) (h2 t k ht)
structure AgrI (r : List Str) (b : Int) (i g m : Nat) : Prop where
  gi : g ≤ i
  run : Run r b ((i - g : Nat) : Int) g
  end_ : g = i ∨ ¬ at_ r ((i - g - 1 : Nat) : Int) = at_ r (((i - g - 1 : Nat) : Int) + b)
  some_ : ∃ s : Nat, s + m ≤ i ∧ Run r b (s : Int) m
  all : ∀ s w : Nat, s + w ≤ i → Run r b (s : Int) w → w ≤ m
theorem AgrI.start (r : List Str) (b : Int) : AgrI r b 0 0 0 := ⟨Nat.le_refl _, fun i h => absurd h (Nat.not_lt_zero _), .inl rfl, ⟨0, Nat.le_refl _, fun i h => absurd h (Nat.not_lt_zero _)⟩, fun s w h _ => by omega⟩
theorem AgrI.yes {r : List Str} {b : Int} {i g m : Nat} (h : AgrI r b i g m) (e : at_ r (i : Nat) = at_ r ((i : Nat) + b)) : AgrI r b (i + 1) (g + 1) (if g + 1 > m then g + 1 else m) := by
  have gi := h.gi
  have run : Run r b ((i - g : Nat) : Int) (g + 1) := fun j hj => by
    rcases Nat.lt_or_ge j g with q | q
    · exact h.run j q
    · rw [show ((i - g : Nat) : Int) + (j : Nat) = (i : Nat) by omega]
      exact e
  refine ⟨by omega, by rw [show i + 1 - (g + 1) = i - g by omega]; exact run, ?_, ?_, fun s w hs hw => ?_⟩
  · rw [show i + 1 - (g + 1) - 1 = i - g - 1 by omega]
    rcases h.end_ with q | q
    · exact .inl (by omega)
    · exact .inr q
  · split
    · exact ⟨i - g, by omega, run⟩
    · obtain ⟨s, h1, h2⟩ := h.some_
      exact ⟨s, by omega, h2⟩
  · rcases Nat.lt_or_ge i (s + w) with q | q
    · have hwg : w ≤ g + 1 := by
        refine Nat.le_of_not_lt fun q2 => ?_
        rcases h.end_ with q3 | q3
        · omega
        · have := hw (i - g - 1 - s) (by omega)
          rw [show ((s : Nat) : Int) + ((i - g - 1 - s : Nat) : Int) = ((i - g - 1 : Nat) : Int) by omega] at this
          exact q3 this
      split <;> omega
    · have := h.all s w q hw
      split <;> omega
theorem AgrI.no {r : List Str} {b : Int} {i g m : Nat} (h : AgrI r b i g m) (e : ¬ at_ r (i : Nat) = at_ r ((i : Nat) + b)) : AgrI r b (i + 1) 0 m := by
  refine ⟨Nat.zero_le _, fun j hj => absurd hj (Nat.not_lt_zero _), .inr (by rw [show i + 1 - 0 - 1 = i by omega]; exact e), ?_, fun s w hs hw => ?_⟩
  · obtain ⟨s, h1, h2⟩ := h.some_
    exact ⟨s, by omega, h2⟩
  · rcases Nat.lt_or_ge i (s + w) with q | q
    · rcases Nat.eq_zero_or_pos w with q2 | q2
      · omega
      · have := hw (i - s) (by omega)
        rw [show ((s : Nat) : Int) + ((i - s : Nat) : Int) = (i : Nat) by omega] at this
        exact absurd this e
    · exact h.all s w q hw
theorem run_mod {r : List Str} {b s : Int} {w : Nat} (h : Run r b s w) : Run r b (s % (r.length : Nat)) w := fun i hi => by
  have e1 : at_ r (s % (r.length : Nat) + (i : Nat)) = at_ r (s + (i : Nat)) := by rw [← at_mod (s % (r.length : Nat) + (i : Nat)), Int.emod_add_emod, at_mod]
  have e2 : at_ r (s % (r.length : Nat) + (i : Nat) + b) = at_ r (s + (i : Nat) + b) := by rw [Int.add_assoc, ← at_mod (s % (r.length : Nat) + ((i : Nat) + b)), Int.emod_add_emod, at_mod, Int.add_assoc]
  rw [e1, e2, h i hi]
theorem AgrI.done {r : List Str} (hR : RowOk r) {b : Int} (b0 : 0 < b) (b1 : b < (r.length : Nat)) {g m : Nat} (h : AgrI r b (2 * r.length) g m) : AgrMax r b m := by
  have r0 := hR.ne
  obtain ⟨s0, h1, h2⟩ := h.some_
  refine ⟨⟨_, h2⟩, fun s w hw => ?_⟩
  obtain ⟨m0, m1⟩ := emod_in s r0
  have hw' := run_mod hw
  rcases Nat.lt_or_ge r.length w with q | q
  · exfalso
    have per : Per (at_ r) b.toNat := fun x => by
      obtain ⟨c0, c1⟩ := emod_in (x - s) r0
      have := hw ((x - s) % (r.length : Nat)).toNat (by omega)
      rw [Int.toNat_of_nonneg c0] at this
      rw [← at_mod (s + (x - s) % (r.length : Nat)), Int.add_emod_emod, at_mod, ← at_mod (s + (x - s) % (r.length : Nat) + b), Int.add_right_comm, Int.add_emod_emod, at_mod] at this
      rw [show s + (x - s) = x by omega, show s + b + (x - s) = x + b by omega] at this
      rw [Int.toNat_of_nonneg (by omega)]
      exact this.symm
    exact hR.least b.toNat (by omega) (by omega) ((rot_iff (by omega)).mpr per)
  · refine h.all (s % (r.length : Nat)).toNat w (by omega) ?_
    rw [Int.toNat_of_nonneg m0]
    exact hw'
def mist (r : List Str) (most b : Int) (k : Nat) : Int := most - (most - b) % (r.length : Nat) + (k : Nat)
def EnoughV (r : List Str) (most e : Int) : Prop := most ≤ e ∧ (∀ b : Int, 0 < b → b < (r.length : Nat) → ∀ k, AgrMax r b k → mist r most b k + 1 ≤ e) ∧ (e = most ∨ ∃ b : Int, 0 < b ∧ b < (r.length : Nat) ∧ ∃ k, AgrMax r b k ∧ e = mist r most b k + 1)
def spAgr : Sp := fun vs H Q _ => ∃ (t : Addr) (r : List Str) (b : Int), vs = [.ref t, .int b] ∧ H t = some (.tup (r.map V.str)) ∧ RowOk r ∧ 0 < b ∧ b < (r.length : Nat) ∧ ∀ k, AgrMax r b k → Q (.int (k : Nat)) H
def spMist : Sp := fun vs H Q _ => ∃ (t : Addr) (r : List Str) (b most : Int), vs = [.ref t, .int b, .int most] ∧ H t = some (.tup (r.map V.str)) ∧ RowOk r ∧ 0 < b ∧ b < (r.length : Nat) ∧ ∀ k, AgrMax r b k → Q (.int (mist r most b k)) H
def spEnough (K : PySem.W.Frag) : Sp := fun vs H Q _ => ∃ (a : Addr) (r : List Str) (most : Int), vs = [.ref a, .int most] ∧ RowAt K H a r ∧ (r.length : Nat) ≤ most ∧ most ≤ 240 ∧ ∀ (H' : Hp) (e : Int), Same H H' → EnoughV r most e → Q (.int e) H'
section
variable {P : Program} {w : World} {K : PySem.W.Frag} {mg : Str → Option Value} {base : Heap}
/- slots: 0 threads, 1 by, 2 size, 3 longest, 4 going, 5 place -/
def N_longest_agreement : List Str := ["threads", "by", "size", "longest", "going", "place"]
theorem sc_longest_agreement : FnScope N_longest_agreement ["threads", "by"] (defScope s_longest_agreement) := ⟨rfl, rfl, rfl, by decide +kernel, rfl, by decide +kernel, by decide +kernel⟩
theorem ok_longest_agreement (T : Txt K mg) : FnOk P w K mg base CX0 2 (ga K "longest_agreement") (fdOf K "longest_agreement") ["threads", "by"] (spAgr) := by
  refine T.F_longest_agreement.ok sc_longest_agreement (fun vs H Q E h => ?_) (fun cdv A outer s H vs Q E hr h => ?_)
  · obtain ⟨t, r, b, rfl, _⟩ := h
    rfl
  · obtain ⟨t, r, b, rfl, ht, hR, b0, b1, hQ⟩ := h
    refine ⟨_, PSs.nox (pss_cons (ps_set (i := 2) sc_longest_agreement.nd rfl (Or.inl rfl) (pe_callB call_len (by rfl) T.f_len (by decide +kernel) (pa_cons (pv 0) pa_nil)))
    (pss_cons (ps_set (i := 3) sc_longest_agreement.nd rfl (Or.inl rfl) pe_int)
    (pss_cons (ps_set (i := 4) sc_longest_agreement.nd rfl (Or.inl rfl) pe_int)
    (pss_cons (ps_for PassesOwn.never rfl (pi_range1 (by rfl) T.f_range (pa_cons (pe_op op_mul pe_int (pv 2)) pa_nil)) (pg_name (i := 5) sc_longest_agreement.nd rfl (Or.inl rfl))
    (pss_cons (ps_set (i := 4) sc_longest_agreement.nd rfl (Or.inl rfl) (pe_ifExp (pt_cmpR op_eq (pe_ix ix_tup (pv 0) (pe_op op_mod (pv 5) (pv 2)) (fun _ _ => rfl)) (pe_ix ix_tup (pv 0) (pe_op op_mod (pe_op op_add (pv 5) (pv 1)) (pv 2)) (fun _ _ => rfl)) (nomark _)) (pe_op op_add (pv 4) pe_int) pe_int))
     (pss_one (ps_set (i := 3) sc_longest_agreement.nd rfl (Or.inl rfl) (pe_callB (call_max2 rfl) (by rfl) T.f_max (by decide +kernel) (pa_cons (pv 3) (pa_cons (pv 4) pa_nil)))))))
    (pss_one (ps_ret (pv 3))))))), ?_⟩
    have r0 := hR.ne
    have r1 := hR.most
    have hml : (r.map V.str).length = r.length := List.length_map ..
    refine ⟨_, rfl, _, _, rfl, Or.inr ⟨_, SqT.of ht, rfl⟩, ?_⟩
    refine ⟨_, rfl, _, _, rfl, rfl, .inl ⟨by decide, by decide⟩, 2 * (r.length : Nat), ?_, by omega, by omega, ?_⟩
    · rw [hml]
    refine for_it (walk_range (lo := 0) (n := (2 * ((r.length : Nat) : Int)).toNat)) (fun i σ H' => ∃ (g m : Nat) (u5 : Option V), σ = [some (.ref t), some (.int b), some (.int (r.length : Nat)), some (.int (m : Nat)), some (.int (g : Nat)), u5] ∧ H' = H ∧ AgrI r b i g m) ⟨0, 0, none, by rw [hml]; rfl, rfl, AgrI.start r b⟩ (fun _ _ _ _ _ => True.intro) (fun i x σ H0 H2 hi hP hy => ?_) fun σ H2 hP => ?_
    · obtain ⟨g, m, u5, rfl, rfl, hI⟩ := hP
      obtain ⟨rfl, rfl⟩ := hy
      have pos : (0 : Int) < ((r.length : Nat) : Int) := by omega
      have ix : ∀ s : Int, atI (r.map V.str) (s % ((r.length : Nat) : Int)) = some (.str (at_ r s)) := fun s => ix_at r0 s
      refine ⟨_, rfl, _, rfl, _, rfl, _, _, rfl, rfl, pos, t, _, _, .str (at_ r (0 + (i : Nat))), rfl, rfl, SqT.of ht, ix _, ?_⟩
      refine ⟨_, rfl, _, rfl, _, rfl, _, _, rfl, rfl, _, rfl, _, _, rfl, rfl, pos, t, _, _, .str (at_ r (0 + (i : Nat) + b)), rfl, rfl, SqT.of ht, ix _, ?_⟩
      refine ⟨rfl, _, rfl, ite2 (fun c => ?_) fun c => ?_⟩
      · have e : at_ r (i : Nat) = at_ r ((i : Nat) + b) := by
          have := V.str.inj (of_decide_eq_true c)
          rw [Int.zero_add] at this
          exact this
        have em : (if ((g : Nat) : Int) + 1 > ((m : Nat) : Int) then ((g : Nat) : Int) + 1 else ((m : Nat) : Int)) = ((if g + 1 > m then g + 1 else m : Nat) : Int) := by
          split <;> split <;> omega
        refine ⟨_, rfl, _, _, rfl, rfl, _, rfl, _, rfl, _, _, rfl, g + 1, _, some (.int (0 + (i : Nat))), ?_, rfl, hI.yes e⟩
        rw [← em]
        rfl
      · have e : ¬ at_ r (i : Nat) = at_ r ((i : Nat) + b) := fun h => c (decide_eq_true (congrArg V.str (by rw [Int.zero_add]; exact h)))
        have em : (if (0 : Int) > ((m : Nat) : Int) then (0 : Int) else ((m : Nat) : Int)) = ((m : Nat) : Int) := if_neg (by omega)
        refine ⟨_, rfl, _, rfl, _, _, rfl, 0, m, some (.int (0 + (i : Nat))), ?_, rfl, hI.no e⟩
        rw [em]
        rfl
    · obtain ⟨g, m, u5, rfl, rfl, hI⟩ := hP
      rw [show (2 * ((r.length : Nat) : Int)).toNat = 2 * r.length by omega] at hI
      exact ⟨_, rfl, hQ m (hI.done hR b0 b1)⟩
/- slots: 0 threads, 1 by, 2 most, 3 greatest -/
def N_longest_mistaken : List Str := ["threads", "by", "most", "greatest"]
theorem sc_longest_mistaken : FnScope N_longest_mistaken ["threads", "by", "most"] (defScope s_longest_mistaken) := ⟨rfl, rfl, rfl, by decide +kernel, rfl, by decide +kernel, by decide +kernel⟩
theorem ok_longest_mistaken (T : Txt K mg) : FnOk P w K mg base CX0 3 (ga K "longest_mistaken") (fdOf K "longest_mistaken") ["threads", "by", "most"] (spMist) := by
  have G_longest_agreement := ok_longest_agreement (P := P) (w := w) (base := base) T
  refine T.F_longest_mistaken.ok sc_longest_mistaken (fun vs H Q E h => ?_) (fun cdv A outer s H vs Q E hr h => ?_)
  · obtain ⟨t, r, b, most, rfl, _⟩ := h
    rfl
  · obtain ⟨t, r, b, most, rfl, ht, hR, b0, b1, hQ⟩ := h
    refine ⟨_, PSs.nox (pss_cons (ps_set (i := 3) sc_longest_mistaken.nd rfl (Or.inl rfl) (pe_op op_sub (pv 2) (pe_op op_mod (pe_op op_sub (pv 2) (pv 1)) (pe_callB call_len (by rfl) T.f_len (by decide +kernel) (pa_cons (pv 0) pa_nil)))))
    (pss_one (ps_ret (pe_op op_add (pv 3) (pe_call G_longest_agreement (hr.mono (by decide)) (by rfl) T.g_longest_agreement T.F_longest_agreement.kp T.b_longest_agreement .nil pass0 (pa_cons (pv 0) (pa_cons (pv 1) pa_nil))))))), ?_⟩
    have r0 := hR.ne
    have hml : (r.map V.str).length = r.length := List.length_map ..
    refine ⟨_, rfl, _, rfl, _, rfl, _, _, rfl, rfl, _, rfl, _, _, rfl, Or.inr ⟨_, SqT.of ht, rfl⟩, _, _, rfl, rfl, ?_, _, _, rfl, rfl, ?_⟩
    · show (0 : Int) < (((r.map V.str).length : Nat) : Int)
      rw [hml]
      omega
    refine ⟨_, rfl, _, rfl, _, rfl, t, r, b, rfl, ht, hR, b0, b1, fun k hk => ⟨_, _, rfl, rfl, ?_⟩⟩
    have := hQ k hk
    unfold mist at this
    rw [← hml] at this
    exact this
/-- what is found of each number to move by -/
structure Es (r : List Str) (most : Int) (i : Nat) (es : List Int) : Prop where
  len : es.length = i
  is : ∀ e ∈ es, ∃ j : Nat, j < i ∧ ∃ k, AgrMax r (1 + (j : Nat)) k ∧ e = mist r most (1 + (j : Nat)) k + 1
  all : ∀ j : Nat, j < i → ∀ k, AgrMax r (1 + (j : Nat)) k → mist r most (1 + (j : Nat)) k + 1 ∈ es
/- slots: 0 row, 1 most, 2 threads, 3 by; cells most threads -/
def N_enough : List Str := ["row", "most", "threads", "by"]
theorem sc_enough : FnScope N_enough ["row", "most"] (defScope s_enough) := ⟨rfl, rfl, rfl, by decide +kernel, rfl, by decide +kernel, by decide +kernel⟩
theorem ok_enough (T : Txt K mg) : FnOk P w K mg base CX0 5 (ga K "enough") (fdOf K "enough") ["row", "most"] (spEnough K) := by
  have G_check_number := ok_check_number (P := P) (w := w) (base := base) T
  have G_Row___len__ := ok_Row___len__ (P := P) (w := w) (base := base) T
  have G_Row_threads := ok_Row_threads (P := P) (w := w) (base := base) T
  have G_longest_mistaken := ok_longest_mistaken (P := P) (w := w) (base := base) T
  refine T.F_enough.ok sc_enough (fun vs H Q E h => ?_) (fun cdv A outer s H vs Q E hr h => ?_)
  · obtain ⟨a, r, most, rfl, _⟩ := h
    rfl
  · obtain ⟨a, r, most, rfl, hA, hm0, hm1, hQ⟩ := h
    refine ⟨_, PSs.nox (pss_cons (ps_expr (pe_call G_check_number (hr.mono (by decide)) (by rfl) T.g_check_number T.F_check_number.kp T.b_check_number .nil pass0 (pa_cons (pv 1) (pa_cons (pe_callB (call_lenI T.M_Row___len__.at_ T.M_Row___len__.fn (G_Row___len__.raw T.b_Row___len__ .nil) (hr.mono (by decide)) pass0) (by rfl) T.f_len (by decide +kernel) (pa_cons (pv 0) pa_nil)) (pa_cons (pe_glob (v := .int 240) rfl T.m_MOST_THREADS.choose_spec ⟨_, rfl⟩) pa_nil)))))
    (pss_cons (ps_set (i := 2) sc_enough.nd rfl (Or.inr rfl) (pe_meth0 (pv 0) T.cl_Row T.M_Row_threads G_Row_threads (hr.mono (by decide)) T.b_Row_threads .nil pass0))
    (pss_one (ps_ret (pe_callB (cr_max rfl) (by rfl) T.f_max (by decide +kernel) (pa_cons (pe_op op_cat (pe_lst (pa_cons (pv 1) pa_nil)) (pe_lc (own := [("by", 3)]) rfl sc_enough.nd (pi_range2 (by rfl) T.f_range (pa_cons pe_int (pa_cons (pe_callB (call_lenI T.M_Row___len__.at_ T.M_Row___len__.fn (G_Row___len__.raw T.b_Row___len__ .nil) (hr.mono (by decide)) pass0) (by rfl) T.f_len (by decide +kernel) (pa_cons (pv 0) pa_nil)) pa_nil))) (blkOk_by (own := [("by", 3)]) (N := N_enough) (sc := defScope s_enough) (by decide +kernel)) (fun _ _ _ _ _ => (pg_name (i := 3) sc_enough.nd rfl (Or.inl rfl))) (fun _ _ _ _ _ => pts_nil) (fun _ _ _ _ _ => (pe_op op_add (pe_call G_longest_mistaken (hr.mono (by decide)) (by rfl) T.g_longest_mistaken T.F_longest_mistaken.kp T.b_longest_mistaken .nil pass0 (pa_cons (pv 2) (pa_cons (pv 3) (pa_cons (pv 1) pa_nil)))) pe_int)))) pa_nil)))))), ?_⟩
    obtain ⟨hR, dx, t, ha, ht⟩ := id hA
    have r0 := hR.ne
    have r1 := hR.most
    refine ⟨_, rfl, _, rfl, a, dx, _, rfl, ha, a, r, rfl, hA, _, rfl, by omega, by omega, most, _, 240, rfl, hm0, hm1, ?_⟩
    refine ⟨_, rfl, a, dx, _, rfl, ha, rfl, a, r, rfl, hA, fun t2 ht2 => ?_⟩
    refine ⟨_, rfl, (by show 1 ≤ sizeLine; decide), fun c1 hc1 => ?_⟩
    have S1 := same_new (o := .lst [V.int most]) hc1
    have hA1 := hA.same S1
    refine ⟨_, rfl, a, dx, _, rfl, S1 _ _ ha, a, r, rfl, hA1, _, rfl, by omega, by omega, 1, ((r.length : Nat) : Int), rfl, ⟨by decide, by decide, by omega, by omega⟩, ?_⟩
    refine fun D hD => lc_it (walk_range (lo := 1) (n := (((r.length : Nat) : Int) - 1).toNat)) (fun i H' => ∃ es : List Int, LcAt (upd H c1 (.lst [V.int most])) D H' (es.map V.int) ∧ Es r most i es) ⟨[], LcAt.start hD, rfl, fun e he => (nomatch he), fun j hj => absurd hj (Nat.not_lt_zero _)⟩ (fun _ _ _ _ => True.intro) (fun i x Ha Hb hi hP hy => ?_) fun Ha hP => ?_
    · obtain ⟨es, hL, hE⟩ := hP
      obtain ⟨rfl, rfl⟩ := hy
      have hi' : i < (((r.length : Nat) : Int) - 1).toNat := hi
      refine ⟨rfl, _, rfl, _, rfl, _, rfl, t2, r, 1 + (i : Nat), most, rfl, hL.same _ _ (S1 _ _ ht2), hR, by omega, by omega, fun k hk => ⟨_, _, rfl, rfl, _, hL.it, small (by rw [List.length_map, hE.len]; omega), es ++ [mist r most (1 + (i : Nat)) k + 1], ?_, ?_, ?_, ?_⟩⟩
      · rw [List.map_append]
        exact hL.push
      · rw [List.length_append, hE.len]
        rfl
      · intro e he
        rcases List.mem_append.mp he with h | h
        · obtain ⟨j, hj, k', h1, h2⟩ := hE.is e h
          exact ⟨j, by omega, k', h1, h2⟩
        · rw [List.mem_singleton] at h
          exact ⟨i, by omega, k, hk, h⟩
      · intro j hj k' hk'
        rcases Nat.lt_or_ge j i with q | q
        · exact List.mem_append_left _ (hE.all j q k' hk')
        · have ej : j = i := by omega
          subst ej
          rw [AgrMax.one hk' hk]
          exact List.mem_append_right _ List.mem_cons_self
    · obtain ⟨es, hL, hE⟩ := hP
      have hel := hE.len
      refine ⟨c1, D, _, _, rfl, rfl, hL.same _ _ upd_same, hL.it, ?_, fun c3 hc3 => ?_⟩
      · rw [List.length_map, hel]
        exact smallE (by show 1 + _ ≤ _; omega)
      have S3 := same_new (o := .lst ([V.int most] ++ es.map V.int)) hc3
      refine ⟨c3, most :: es, rfl, SqL.of upd_same, by simp, fun m hm hmax => ?_⟩
      refine hQ _ m ((S1.trans hL.same).trans S3) ⟨hmax most List.mem_cons_self, fun b b0 b1 k hk => ?_, ?_⟩
      · have eb : b = 1 + (((b - 1).toNat : Nat) : Int) := by omega
        have := hE.all (b - 1).toNat (by omega) k (by rw [← eb]; exact hk)
        rw [← eb] at this
        exact hmax _ (List.mem_cons_of_mem _ this)
      · rcases List.mem_cons.mp hm with h | h
        · exact .inl h
        · obtain ⟨j, hj, k, h1, h2⟩ := hE.is m h
          exact .inr ⟨1 + (j : Nat), by omega, by omega, k, h1, h2⟩
end
end S11

namespace S11
open PySem PySem.Spec PyProof.Rows L2 L2.Own He Sl
theorem flatB (bs : List Bool) : (bs.map V.bl).all flatV = true := by
  rw [List.all_map, List.all_eq_true]
  exact fun _ _ => rfl
theorem inB (bs : List Bool) : inV (.bl true) (bs.map V.bl) = bs.contains true := by
  unfold inV
  rw [List.any_map, List.contains_eq_any_beq]
  congr 1
  funext x
  cases x <;> rfl
theorem among_iff (r : List Str) (rs : List (List Str)) : (rs.map fun q => decide (r = q)).contains true = decide (r ∈ rs) := by
  rw [Bool.eq_iff_iff, List.contains_iff_mem, decide_eq_true_iff, List.mem_map]
  constructor
  · rintro ⟨q, hq, e⟩
    rw [of_decide_eq_true e]
    exact hq
  · intro h
    exact ⟨r, h, decide_eq_true rfl⟩
theorem RowsAt.at_ {K : PySem.W.Frag} {H : Hp} {as : List Addr} {rs : List (List Str)} (h : RowsAt K H as rs) {i : Nat} {v : V} (e : (as.map V.ref)[i]? = some v) : ∃ a r, v = .ref a ∧ rs[i]? = some r ∧ RowAt K H a r := by
  rw [List.getElem?_map] at e
  obtain ⟨a, ha, rfl⟩ := Option.map_eq_some_iff.mp e
  obtain ⟨r, h1, h2⟩ := h.2 i a ha
  exact ⟨a, r, rfl, h1, h2⟩
theorem cb_rise {p : List Str} {m : Nat} (hm : m ≤ p.length) : (cb p m).Pairwise (fun a b => a.length < b.length) := by
  unfold cb
  rw [List.pairwise_map]
  refine (List.Pairwise.and_mem.mp (List.Pairwise.filter _ List.pairwise_lt_range)).imp fun {a b} h => ?_
  obtain ⟨ha, hb, hab⟩ := h
  have h1 := List.mem_range.mp (List.mem_filter.mp ha).1
  have h2 := List.mem_range.mp (List.mem_filter.mp hb).1
  rw [List.length_take, List.length_take]
  omega
def spAmong (K : PySem.W.Frag) : Sp := fun vs H Q _ => ∃ (a l : Addr) (r : List Str) (as : List Addr) (rs : List (List Str)), vs = [.ref a, .ref l] ∧ RowAt K H a r ∧ H l = some (.lst (as.map V.ref)) ∧ RowsAt K H as rs ∧ rs.length ≤ 240 ∧ ∀ H', Same H H' → Q (.bl (decide (r ∈ rs))) H'
def spShown (K : PySem.W.Frag) : Sp := fun vs H Q _ => ∃ (a : Addr) (p : List Str) (u : Nat), vs = [.ref a, .int (u : Nat)] ∧ PieceAt K H a p ∧ 0 < u ∧ u ≤ p.length ∧ ∀ H', Same H H' → Q (.bl true) H'
section
variable {P : Program} {w : World} {K : PySem.W.Frag} {mg : Str → Option Value} {base : Heap}
/- slots: 0 _law_band, 1 _law_bands, 2 _law_one; cells _law_band -/
def N__law_among : List Str := ["_law_band", "_law_bands", "_law_one"]
theorem sc__law_among : FnScope N__law_among ["_law_band", "_law_bands"] (defScope s__law_among) := ⟨rfl, rfl, rfl, by decide +kernel, rfl, by decide +kernel, by decide +kernel⟩
theorem ok__law_among (T : Txt K mg) : FnOk P w K mg base CX0 3 (ga K "_law_among") (fdOf K "_law_among") ["_law_band", "_law_bands"] (spAmong K) := by
  have G_Row_alike := ok_Row_alike (P := P) (w := w) (base := base) T
  refine T.F__law_among.ok sc__law_among (fun vs H Q E h => ?_) (fun cdv A outer s H vs Q E hr h => ?_)
  · obtain ⟨a, l, r, as, rs, rfl, _⟩ := h
    rfl
  · obtain ⟨a, l, r, as, rs, rfl, hA, hl, hR, h240, hQ⟩ := h
    refine ⟨_, PSs.nox (pss_one (ps_ret (pe_cmpR op_in_seq pe_bl (pe_lc (own := [("_law_one", 2)]) rfl sc__law_among.nd (pi_list (pv 1)) (blkOk_by (own := [("_law_one", 2)]) (N := N__law_among) (sc := defScope s__law_among) (by decide +kernel)) (fun _ _ _ _ _ => (pg_name (i := 2) sc__law_among.nd rfl (Or.inl rfl))) (fun _ _ _ _ _ => pts_nil) (fun _ _ _ _ _ => (pe_meth (pv 0) T.cl_Row T.M_Row_alike G_Row_alike (hr.mono (by decide)) T.b_Row_alike .nil pass0 (pa_cons (pv 2) pa_nil)))) (by rfl)))), ?_⟩
    have hal := hR.1
    have hml : (as.map V.ref).length = as.length := List.length_map ..
    refine ⟨_, rfl, l, rfl, ⟨_, SqL.of hl⟩, fun D hD => lc_it (walk_list (xs := as.map V.ref)) (fun i H' => LcAt H D H' (((rs.take i).map fun q => decide (r = q)).map V.bl)) (LcAt.start hD) (fun i H' _ hP => SqL.of (hP.same _ _ hl)) (fun i x Ha Hb hi hL hy => ?_) fun Ha hL => ?_⟩
    · obtain ⟨rfl, hx⟩ := hy
      obtain ⟨xa, ra, rfl, hra, hXa⟩ := (hR.same hL.same).at_ hx
      have hA2 := hA.same hL.same
      obtain ⟨_, dx, _, ha, _⟩ := id hA2
      rw [hml] at hi
      refine ⟨rfl, _, rfl, a, dx, _, rfl, ha, rfl, _, rfl, a, xa, r, ra, rfl, hA2, hXa, _, hL.it, small (by rw [List.length_map, List.length_map, List.length_take]; omega), ?_⟩
      rw [List.take_succ, hra, List.map_append, List.map_append]
      exact hL.push
    · rw [hml, hal, List.take_length] at hL
      refine ⟨D, _, rfl, .inl (SqL.of hL.it), rfl, flatB _, ?_⟩
      rw [inB, among_iff]
      exact hQ _ hL.same
/- slots: 0 _law_piece, 1 _law_upto, 2 _law_found, 3 _law_last, 4 _law_one -/
def N__law_shown : List Str := ["_law_piece", "_law_upto", "_law_found", "_law_last", "_law_one"]
theorem sc__law_shown : FnScope N__law_shown ["_law_piece", "_law_upto"] (defScope s__law_shown) := ⟨rfl, rfl, rfl, by decide +kernel, rfl, by decide +kernel, by decide +kernel⟩
theorem ok__law_shown (T : Txt K mg) : FnOk P w K mg base CX0 13 (ga K "_law_shown") (fdOf K "_law_shown") ["_law_piece", "_law_upto"] (spShown K) := by
  have G_can_be := ok_can_be (P := P) (w := w) (base := base) T
  have G_Row___len__ := ok_Row___len__ (P := P) (w := w) (base := base) T
  have G_fits := ok_fits (P := P) (w := w) (base := base) T
  have G_Piece___eq__ := ok_Piece___eq__ (P := P) (w := w) (base := base) T
  have G_cut := ok_cut (P := P) (w := w) (base := base) T
  have G_Piece___len__ := ok_Piece___len__ (P := P) (w := w) (base := base) T
  obtain ⟨ds2_can_be, b2_can_be⟩ := T.b2_can_be
  refine T.F__law_shown.ok sc__law_shown (fun vs H Q E h => ?_) (fun cdv A outer s H vs Q E hr h => ?_)
  · obtain ⟨a, p, u, rfl, _⟩ := h
    rfl
  · obtain ⟨a, p, u, rfl, hA, u0, u1, hQ⟩ := h
    refine ⟨_, PSs.nox (pss_cons (ps_set (i := 2) sc__law_shown.nd rfl (Or.inl rfl) (pe_call G_can_be (hr.mono (by decide)) (by rfl) T.g_can_be T.F_can_be.kp b2_can_be.2 b2_can_be.1 pass0 (pa_cons (pv 0) (pa_cons (pv 1) pa_nil))))
    (pss_cons (ps_set (i := 3) sc__law_shown.nd rfl (Or.inl rfl) pe_int)
    (pss_cons (ps_for PassesOwn.never rfl (pi_list (pv 2)) (pg_name (i := 4) sc__law_shown.nd rfl (Or.inl rfl))
    (pss_cons (ps_if (PW.pt (pw_or (pt_cmpR op_le (pe_callB (call_lenI T.M_Row___len__.at_ T.M_Row___len__.fn (G_Row___len__.raw T.b_Row___len__ .nil) (hr.mono (by decide)) pass0) (by rfl) T.f_len (by decide +kernel) (pa_cons (pv 4) pa_nil)) (pv 3) (nomark _)) (pw_or (pt_cmpR op_gt (pe_callB (call_lenI T.M_Row___len__.at_ T.M_Row___len__.fn (G_Row___len__.raw T.b_Row___len__ .nil) (hr.mono (by decide)) pass0) (by rfl) T.f_len (by decide +kernel) (pa_cons (pv 4) pa_nil)) (pv 1) (nomark _)) (pw_or1 (pt_cmpR op_notIn_seq pe_int (pe_call G_fits (hr.mono (by decide)) (by rfl) T.g_fits T.F_fits.kp T.b_fits .nil pass0 (pa_cons (pv 4) (pa_cons (pv 0) pa_nil))) (by rfl))))))
     (pss_one (ps_ret pe_bl))
     pss_nil)
     (pss_cons (ps_if (pt_cmpR (op_neI T.ne_Piece T.cm_Piece T.M_Piece___eq__.at_ T.M_Piece___eq__.fn (G_Piece___eq__.raw T.b_Piece___eq__ .nil) (hr.mono (by decide)) pass0) (pe_call G_cut (hr.mono (by decide)) (by rfl) T.g_cut T.F_cut.kp T.b_cut .nil pass0 (pa_cons (pv 4) (pa_cons pe_int (pa_cons (pe_op op_sub (pe_callB (call_lenI T.M_Piece___len__.at_ T.M_Piece___len__.fn (G_Piece___len__.raw T.b_Piece___len__ .nil) (hr.mono (by decide)) pass0) (by rfl) T.f_len (by decide +kernel) (pa_cons (pv 0) pa_nil)) pe_int) pa_nil)))) (pv 0) (nomark _))
     (pss_one (ps_ret pe_bl))
     pss_nil)
     (pss_one (ps_set (i := 3) sc__law_shown.nd rfl (Or.inl rfl) (pe_callB (call_lenI T.M_Row___len__.at_ T.M_Row___len__.fn (G_Row___len__.raw T.b_Row___len__ .nil) (hr.mono (by decide)) pass0) (by rfl) T.f_len (by decide +kernel) (pa_cons (pv 4) pa_nil)))))))
    (pss_one (ps_ret pe_bl))))), ?_⟩
    have hBig : big = 1000000000000000000000000000000 := rfl
    obtain ⟨hf, dx, t, ha, ht⟩ := id hA
    have p1 := hf.most
    refine ⟨_, rfl, _, rfl, a, p, _, u, rfl, hA, .inl rfl, u0, u1, fun H1 l as S1 nl hl hR => ?_⟩
    have hml : (as.map V.ref).length = as.length := List.length_map ..
    refine ⟨_, rfl, l, rfl, ⟨_, SqL.of hl⟩, ?_⟩
    refine for_it (walk_list (xs := as.map V.ref)) (fun i σ H' => ∃ (last : Nat) (u4 : Option V), σ = [some (.ref a), some (.int (u : Nat)), some (.ref l), some (.int (last : Nat)), u4] ∧ Same H1 H' ∧ ∀ j r, i ≤ j → (cb p u)[j]? = some r → last < r.length) ⟨0, none, rfl, Same.refl _, fun j r _ e => ?_⟩ (fun i σ H' _ hP => ?_) (fun i x σ H0 H2 hi hP hy => ?_) fun σ H2 hP => ?_
    · obtain ⟨n, n0, n1, _, rfl⟩ := cb_mem.mp (List.mem_of_getElem? e)
      rw [List.length_take]
      omega
    · obtain ⟨last, u4, _, S2, _⟩ := hP
      exact SqL.of (S2 _ _ hl)
    · obtain ⟨last, u4, rfl, S2, hlast⟩ := hP
      obtain ⟨rfl, hx⟩ := hy
      obtain ⟨xa, ra, rfl, hra, hXa⟩ := (hR.same S2).at_ hx
      obtain ⟨n, n0, n1, hS, er⟩ := cb_mem.mp (List.mem_of_getElem? hra)
      have hrl : ra.length = n := by rw [er, List.length_take]; omega
      have hll := hlast i ra (Nat.le_refl _) hra
      have S02 := S1.trans S2
      have hA2 := hA.same S02
      obtain ⟨_, dxa, _, hxa, _⟩ := id hXa
      refine ⟨_, rfl, xa, dxa, _, rfl, hxa, xa, ra, rfl, hXa, _, rfl, by omega, by omega, _, rfl, _, _, rfl, rfl, _, rfl, ?_⟩
      rw [decide_eq_false (show ¬ ((ra.length : Nat) : Int) ≤ ((last : Nat) : Int) by omega)]
      refine iteF ?_
      refine ⟨_, rfl, xa, dxa, _, rfl, hxa, xa, ra, rfl, hXa, _, rfl, by omega, by omega, _, rfl, _, _, rfl, rfl, _, rfl, ?_⟩
      rw [decide_eq_false (show ¬ ((ra.length : Nat) : Int) > ((u : Nat) : Int) by omega)]
      refine iteF ?_
      have hfr : fromTo ra 0 p.length = p := by rw [er]; exact shows_from n0 (by omega) hS.1
      refine ⟨_, rfl, _, rfl, xa, a, ra, p, rfl, hXa, hA2, fun H3 f3 S3 n3 h3 => ⟨f3, _, rfl, .inr (SqT.of h3), rfl, flatZ _, _, rfl, ?_⟩⟩
      have hin : (fitsL ra p).contains 0 = true := by
        rw [List.contains_iff_mem]
        exact fits_mem.mpr ⟨by omega, by omega, hfr⟩
      show if (!inV (.int 0) ((fitsL ra p).map V.int)) = true then _ else _
      rw [inZ, hin]
      refine iteF ?_
      have hX3 := hXa.same S3
      have hA3 := hA2.same S3
      obtain ⟨_, da3, ta3, ha3, _⟩ := id hA3
      have p0 : 0 < p.length := by omega
      refine ⟨_, rfl, _, rfl, a, da3, _, rfl, ha3, a, p, rfl, hA3, _, rfl, by omega, by omega, _, _, rfl, rfl, xa, ra, 0, ((p.length : Nat) : Int) - 1, rfl, hX3, ⟨by rw [hBig]; decide, by rw [hBig]; decide⟩, ⟨by rw [hBig]; omega, by rw [hBig]; omega⟩, by omega, by omega, fun H4 c4 S4 n4 hC4 => ?_⟩
      rw [show (((p.length : Nat) : Int) - 1 - 0 + 1).toNat = p.length by omega, hfr] at hC4
      obtain ⟨_, d4, t4, hc4, _⟩ := id hC4
      refine ⟨_, rfl, c4, d4, _, _, rfl, hc4, piece_ty T (S4 _ _ ha3), notFirst_self _ _, c4, a, p, p, rfl, hC4, hA3.same S4, _, rfl, _, rfl, ?_⟩
      rw [decide_eq_true rfl]
      refine iteF ?_
      have hX4 := hX3.same S4
      obtain ⟨_, dx4, _, hx4, _⟩ := id hX4
      refine ⟨_, rfl, xa, dx4, _, rfl, hx4, xa, ra, rfl, hX4, _, rfl, by omega, by omega, ra.length, _, rfl, S2.trans (S3.trans S4), fun j r hj e => ?_⟩
      have hi' := (List.getElem?_eq_some_iff.mp hra).1
      have hj' := (List.getElem?_eq_some_iff.mp e).1
      have pw := List.pairwise_iff_getElem.mp (cb_rise u1) i j hi' hj' (by omega)
      rw [(List.getElem?_eq_some_iff.mp hra).2, (List.getElem?_eq_some_iff.mp e).2] at pw
      exact pw
    · obtain ⟨last, u4, rfl, S2, _⟩ := hP
      exact hQ _ (S1.trans S2)
end
end S11

namespace S11
open PySem PySem.Spec PyProof.Rows L2 L2.Own He Sl
theorem rot_full (r : List Str) : rot r r.length = r := by
  unfold rot
  rw [List.drop_length, List.take_length, List.nil_append]
theorem row_least {r : List Str} (h : RowOk r) : Least r r.length := ⟨h.ne, Nat.le_refl _, rot_full r, h.least⟩
theorem from_per {r : List Str} {bg : Int} {m n : Nat} (h : ∀ i : Nat, i + n < m → at_ r (bg + (i : Nat)) = at_ r (bg + (i : Nat) + (n : Nat))) : PerL (fromTo r bg m) n := by
  refine perL_iff.mpr fun i hi => ?_
  rw [fromTo_length] at hi
  rw [fromTo_get hi, fromTo_get (by omega), h i hi]
  congr 2
  omega
theorem from_per' {r : List Str} {bg : Int} {m n : Nat} (h : PerL (fromTo r bg m) n) : Run r (n : Nat) bg (m - n) := fun i hi => by
  have := perL_iff.mp h i (by rw [fromTo_length]; omega)
  rw [fromTo_get (by omega), fromTo_get (by omega)] at this
  have := Option.some.inj this
  rw [← this]
  congr 1
  omega
/-- the row itself, moved, is among the rows that can be -/
theorem own_shows {r r' : List Str} (hr : RowOk r) (hr' : RowOk r') {bg : Int} (h : ∀ s, at_ r' s = at_ r (s + bg)) (hl : r'.length = r.length) {m : Nat} (hm : r.length ≤ m) : Shows (fromTo r bg m) r.length ∧ (fromTo r bg m).take r.length = r' := by
  have e : (fromTo r bg m).take r.length = r' := by
    apply List.ext_getElem?
    intro i
    rw [List.getElem?_take]
    split
    · rename_i hi
      rw [fromTo_get (by omega), at_nat (ws := r') (i := i) (by omega), h, Int.add_comm]
    · rw [List.getElem?_eq_none (by omega)]
  refine ⟨⟨from_per fun i _ => ?_, ?_⟩, e⟩
  · exact (at_per r _).symm
  · rw [e, ← hl]
    exact row_least hr'
theorem prefix_shows {p q : List Str} {n : Nat} (hn : n ≤ p.length) (h : Shows (p ++ q) n) : Shows p n ∧ (p ++ q).take n = p.take n := by
  have e : (p ++ q).take n = p.take n := List.take_append_of_le_length hn
  refine ⟨⟨perL_iff.mpr fun i hi => ?_, by rw [← e]; exact h.2⟩, e⟩
  have := perL_iff.mp h.1 i (by rw [List.length_append]; omega)
  rw [List.getElem?_append_left (by omega), List.getElem?_append_left (by omega)] at this
  exact this
theorem run_of_mod {r : List Str} {b c s : Int} {w : Nat} (h : b % (r.length : Nat) = c % (r.length : Nat)) (hr : Run r b s w) : Run r c s w := fun i hi => by
  rw [hr i hi, ← at_mod (s + (i : Nat) + b), Int.add_emod, h, ← Int.add_emod, at_mod]
theorem agrI_some (r : List Str) (b : Int) : ∀ i, ∃ g m, AgrI r b i g m
  | 0 => ⟨0, 0, AgrI.start r b⟩
  | i + 1 => by
    obtain ⟨g, m, h⟩ := agrI_some r b i
    by_cases e : at_ r (i : Nat) = at_ r ((i : Nat) + b)
    · exact ⟨_, _, h.yes e⟩
    · exact ⟨_, _, h.no e⟩
theorem agr_some {r : List Str} (hR : RowOk r) {b : Int} (b0 : 0 < b) (b1 : b < (r.length : Nat)) : ∃ k, AgrMax r b k := by
  obtain ⟨g, m, h⟩ := agrI_some r b (2 * r.length)
  exact ⟨m, h.done hR b0 b1⟩
theorem from_take_at {r : List Str} {bg : Int} {m n : Nat} (n0 : 0 < n) (hn : n ≤ m) (x : Int) : at_ ((fromTo r bg m).take n) x = at_ r (bg + x % (n : Nat)) := by
  have hln : ((fromTo r bg m).take n).length = n := by rw [List.length_take, fromTo_length]; omega
  obtain ⟨c0, c1⟩ := emod_in x (show 0 < ((fromTo r bg m).take n).length by omega)
  rw [hln] at c0 c1
  have g := at_get (ws := (fromTo r bg m).take n) (by omega) x
  rw [hln, List.getElem?_take, if_pos (by omega), fromTo_get (by omega), Int.toNat_of_nonneg c0] at g
  exact (Option.some.inj g).symm
theorem own_shows2 {r : List Str} (hr : RowOk r) (bg : Int) {m : Nat} (hm : r.length ≤ m) : Shows (fromTo r bg m) r.length := by
  have r0 := hr.ne
  have hln : ((fromTo r bg m).take r.length).length = r.length := by rw [List.length_take, fromTo_length]; omega
  have key : ∀ x : Int, at_ ((fromTo r bg m).take r.length) x = at_ r (bg + x) := fun x => by
    rw [from_take_at r0 hm, ← at_mod (bg + x % (r.length : Nat)), Int.add_emod_emod, at_mod]
  refine ⟨from_per fun i _ => (at_per r _).symm, r0, by omega, ?_, fun j j0 j1 e => ?_⟩
  · have := rot_full ((fromTo r bg m).take r.length)
    rw [hln] at this
    exact this
  · have per := (rot_iff (by omega)).mp e
    refine hr.least j j0 j1 ((rot_iff (by omega)).mpr fun s => ?_)
    have := per (s - bg)
    rw [key, key, show bg + (s - bg + (j : Nat)) = s + (j : Nat) by omega, show bg + (s - bg) = s by omega] at this
    exact this
/-- so much is enough: one row alone -/
theorem enough_one {r : List Str} (hr : RowOk r) (bg : Int) {u m : Nat} (hu : r.length ≤ u) (hm : u ≤ m) (hE : EnoughV r (u : Nat) (m : Nat)) : cb (fromTo r bg m) u = [(fromTo r bg m).take r.length] := by
  have r0 := hr.ne
  have hml := fromTo_length r bg m
  have hS := own_shows2 hr bg (Nat.le_trans hu hm)
  have hin : (fromTo r bg m).take r.length ∈ cb (fromTo r bg m) u := cb_mem.mpr ⟨r.length, r0, hu, hS, rfl⟩
  have one : ∀ x ∈ cb (fromTo r bg m) u, x.length = r.length := fun x hx => by
    obtain ⟨n, n0, n1, hSn, rfl⟩ := cb_mem.mp hx
    rw [List.length_take, hml, Nat.min_eq_left (by omega)]
    refine Classical.byContradiction fun ne => ?_
    have hrun := from_per' hSn.1
    by_cases hd : n % r.length = 0
    · -- a longer round than its own
      have hlt : r.length < n := by
        rcases Nat.lt_or_ge r.length n with q | q
        · exact q
        · have := Nat.mod_eq_of_lt (show n < r.length by omega)
          omega
      have hln : ((fromTo r bg m).take n).length = n := by rw [List.length_take, hml]; omega
      refine hSn.2.no r.length r0 hlt ((rot_iff (by omega)).mpr fun s => ?_)
      have key : ∀ x : Int, at_ ((fromTo r bg m).take n) x = at_ r (bg + x % (n : Nat)) := fun x => by
        obtain ⟨c0, c1⟩ := emod_in x (show 0 < ((fromTo r bg m).take n).length by omega)
        rw [hln] at c0 c1
        have g := at_get (ws := (fromTo r bg m).take n) (by omega) x
        rw [hln, List.getElem?_take, if_pos (by omega), fromTo_get (by omega), Int.toNat_of_nonneg c0] at g
        exact (Option.some.inj g).symm
      rw [key, key, ← at_mod (bg + (s + (r.length : Nat)) % (n : Nat)), ← at_mod (bg + s % (n : Nat))]
      have dv : ((r.length : Nat) : Int) ∣ ((n : Nat) : Int) := Int.natCast_dvd_natCast.mpr (Nat.dvd_of_mod_eq_zero hd)
      rw [Int.add_emod, Int.emod_emod_of_dvd _ dv, Int.add_emod_right, Int.add_emod bg (s % (n : Nat)), Int.emod_emod_of_dvd _ dv]
    · -- a run that is too long
      have b0 : 0 < n % r.length := by omega
      have b1 : n % r.length < r.length := Nat.mod_lt _ r0
      have hmod : ((n : Nat) : Int) % (r.length : Nat) = (((n % r.length : Nat) : Nat) : Int) % (r.length : Nat) := by
        rw [← Int.natCast_emod, ← Int.natCast_emod, Nat.mod_mod]
      have hrun2 := run_of_mod hmod hrun
      obtain ⟨k, hk⟩ := agr_some hr (b := ((n % r.length : Nat) : Int)) (by omega) (by omega)
      have h1 := hk.2 bg (m - n) hrun2
      have h2 := hE.2.1 ((n % r.length : Nat) : Int) (by omega) (by omega) k hk
      unfold mist at h2
      -- the greatest number up to u of its rest is no less than n
      have h3 : (n : Int) ≤ (u : Nat) - ((u : Nat) - ((n % r.length : Nat) : Int)) % (r.length : Nat) := by
        obtain ⟨a0, a1⟩ := emod_in ((u : Nat) - ((n % r.length : Nat) : Int)) r0
        have e1 : ((u : Nat) - ((n % r.length : Nat) : Int)) % (r.length : Nat) = ((u : Nat) - (n : Nat) : Int) % (r.length : Nat) := by
          rw [Int.sub_emod, ← hmod, ← Int.sub_emod]
        have e2 : ((u : Nat) - (n : Nat) : Int) = ((u - n : Nat) : Int) := by omega
        rw [e1, e2, ← Int.natCast_emod]
        have := Nat.mod_le (u - n) r.length
        omega
      omega
  have rise := cb_rise (p := fromTo r bg m) (m := u) (by omega)
  match hc : cb (fromTo r bg m) u, hin, one, rise with
  | [], hin, _, _ => exact absurd hin List.not_mem_nil
  | [x], hin, _, _ => rw [List.mem_singleton.mp hin]
  | x :: y :: l, _, one, rise =>
    have h1 := (List.pairwise_cons.mp rise).1 y List.mem_cons_self
    have h2 := one x List.mem_cons_self
    have h3 := one y (List.mem_cons_of_mem _ List.mem_cons_self)
    omega
theorem PieceAt.butL {K : PySem.W.Frag} {H H' : Hp} {q b : Addr} {p : List Str} {xs : List V} (h : PieceAt K H b p) (e : H q = some (.lst xs)) (s : But q H H') : PieceAt K H' b p := by
  obtain ⟨h1, dx, t, h2, h3⟩ := h
  exact ⟨h1, dx, t, s _ _ (fun e2 => by rw [e2, e] at h2; cases h2) h2, s _ _ (fun e2 => by rw [e2, e] at h3; cases h3) h3⟩
theorem PieceAt.butB {K : PySem.W.Frag} {H H' : Hp} {q b : Addr} {p : List Str} (h : PieceAt K H b p) (hq : PoolB H q) (s : But q H H') : PieceAt K H' b p := let ⟨_, e⟩ := hq.lst; h.butL e s
theorem RowAt.butB' {K : PySem.W.Frag} {H H' : Hp} {q b : Addr} {p : List Str} (h : RowAt K H b p) (hq : PoolB H q) (s : But q H H') : RowAt K H' b p := let ⟨_, e⟩ := hq.lst; RowAt.butL h e s
def spPieceR (K : PySem.W.Frag) : Sp := fun vs H Q _ => ∃ (q x : Addr) (r : List Str), vs = [.ref q, .ref x] ∧ PoolB H q ∧ RowAt K H x r ∧ ∀ H', But q H H' → PoolB H' q → Q (.bl true) H'
section
variable {P : Program} {w : World} {K : PySem.W.Frag} {mg : Str → Option Value} {base : Heap}
/- slots: 0 _law_pool_here, 1 _law_band, 2 _law_begun, 3 _law_many, 4 _law_piece, 5 _law_upto, 6 _law_longer, 7 _law_words, 8 _law_one; cells _law_piece _law_upto -/
def N__law_piece_right : List Str := ["_law_pool_here", "_law_band", "_law_begun", "_law_many", "_law_piece", "_law_upto", "_law_longer", "_law_words", "_law_one"]
theorem sc__law_piece_right : FnScope N__law_piece_right ["_law_pool_here", "_law_band"] (defScope s__law_piece_right) := ⟨rfl, rfl, rfl, by decide +kernel, rfl, by decide +kernel, by decide +kernel⟩
theorem ok__law_piece_right (T : Txt K mg) : FnOk P w K mg base CX0 15 (ga K "_law_piece_right") (fdOf K "_law_piece_right") ["_law_pool_here", "_law_band"] (spPieceR K) := by
  have G__law_take := ok__law_take (P := P) (w := w) (base := base) T
  have G__law_far := ok__law_far (P := P) (w := w) (base := base) T
  have G_cut := ok_cut (P := P) (w := w) (base := base) T
  have G__law_shown := ok__law_shown (P := P) (w := w) (base := base) T
  have G_Row___len__ := ok_Row___len__ (P := P) (w := w) (base := base) T
  have G__law_among := ok__law_among (P := P) (w := w) (base := base) T
  have G_Row_moved := ok_Row_moved (P := P) (w := w) (base := base) T
  have G_can_be := ok_can_be (P := P) (w := w) (base := base) T
  have G_Piece_joined := ok_Piece_joined (P := P) (w := w) (base := base) T
  have G_Piece_threads := ok_Piece_threads (P := P) (w := w) (base := base) T
  have G_Piece___init__ := ok_Piece___init__ (P := P) (w := w) (base := base) T
  obtain ⟨ds1_can_be, b1_can_be⟩ := T.b1_can_be
  obtain ⟨ds2_can_be, b2_can_be⟩ := T.b2_can_be
  refine T.F__law_piece_right.ok sc__law_piece_right (fun vs H Q E h => ?_) (fun cdv A outer s H vs Q E hr h => ?_)
  · obtain ⟨q, x, r, rfl, _⟩ := h
    rfl
  · obtain ⟨q, x, r, rfl, hq, hX, hQ⟩ := h
    refine ⟨_, PSs.nox (pss_cons (ps_set (i := 2) sc__law_piece_right.nd rfl (Or.inl rfl) (pe_ix ix_list (pe_lst (pa_cons (pe_op op_sub (pe_call G__law_take (hr.mono (by decide)) (by rfl) T.g__law_take T.F__law_take.kp T.b__law_take .nil pass0 (pa_cons (pv 0) (pa_cons pe_int pa_nil))) pe_int) (pa_cons (pe_call G__law_far (hr.mono (by decide)) (by rfl) T.g__law_far T.F__law_far.kp T.b__law_far .nil pass0 (pa_cons (pv 0) (pa_cons pe_int pa_nil))) pa_nil))) (pe_call G__law_take (hr.mono (by decide)) (by rfl) T.g__law_take T.F__law_take.kp T.b__law_take .nil pass0 (pa_cons (pv 0) (pa_cons pe_int pa_nil))) (fun _ _ => rfl)))
    (pss_cons (ps_set (i := 3) sc__law_piece_right.nd rfl (Or.inl rfl) (pe_op op_add pe_int (pe_call G__law_take (hr.mono (by decide)) (by rfl) T.g__law_take T.F__law_take.kp T.b__law_take .nil pass0 (pa_cons (pv 0) (pa_cons (pe_ix ix_list (pe_lst (pa_cons pe_int (pa_cons pe_int pa_nil))) (pe_call G__law_take (hr.mono (by decide)) (by rfl) T.g__law_take T.F__law_take.kp T.b__law_take .nil pass0 (pa_cons (pv 0) (pa_cons pe_int pa_nil))) (fun _ _ => rfl)) pa_nil)))))
    (pss_cons (ps_set (i := 4) sc__law_piece_right.nd rfl (Or.inr rfl) (pe_call G_cut (hr.mono (by decide)) (by rfl) T.g_cut T.F_cut.kp T.b_cut .nil pass0 (pa_cons (pv 1) (pa_cons (pv 2) (pa_cons (pe_op op_sub (pe_op op_add (pv 2) (pv 3)) pe_int) pa_nil)))))
    (pss_cons (ps_set (i := 5) sc__law_piece_right.nd rfl (Or.inr rfl) (pe_op op_add pe_int (pe_call G__law_take (hr.mono (by decide)) (by rfl) T.g__law_take T.F__law_take.kp T.b__law_take .nil pass0 (pa_cons (pv 0) (pa_cons (pv 3) pa_nil)))))
    (pss_cons (ps_if (PW.pt (pw_or (pt_not (pt_val (pe_call G__law_shown (hr.mono (by decide)) (by rfl) T.g__law_shown T.F__law_shown.kp T.b__law_shown .nil pass0 (pa_cons (pv 4) (pa_cons (pv 5) pa_nil))))) (pw_or1 (pt_not (pt_val (pe_call G__law_shown (hr.mono (by decide)) (by rfl) T.g__law_shown T.F__law_shown.kp T.b__law_shown .nil pass0 (pa_cons (pv 4) (pa_cons (pv 3) pa_nil))))))))
    (pss_one (ps_ret pe_bl))
    pss_nil)
    (C8.pss_cut (ps_if (PW.pt (pw_and (pt_cmpR op_le (pe_callB (call_lenI T.M_Row___len__.at_ T.M_Row___len__.fn (G_Row___len__.raw T.b_Row___len__ .nil) (hr.mono (by decide)) pass0) (by rfl) T.f_len (by decide +kernel) (pa_cons (pv 1) pa_nil)) (pv 5) (nomark _)) (pw_and1 (pt_not (pt_val (pe_call G__law_among (hr.mono (by decide)) (by rfl) T.g__law_among T.F__law_among.kp T.b__law_among .nil pass0 (pa_cons (pe_meth (pv 1) T.cl_Row T.M_Row_moved G_Row_moved (hr.mono (by decide)) T.b_Row_moved .nil pass0 (pa_cons (pe_op op_sub pe_int (pv 2)) pa_nil)) (pa_cons (pe_call G_can_be (hr.mono (by decide)) (by rfl) T.g_can_be T.F_can_be.kp b2_can_be.2 b2_can_be.1 pass0 (pa_cons (pv 4) (pa_cons (pv 5) pa_nil))) pa_nil))))))))
    (pss_one (ps_ret pe_bl))
    pss_nil)
    (pss_cons (ps_set (i := 6) sc__law_piece_right.nd rfl (Or.inl rfl) (pe_meth (pv 4) T.cl_Piece T.M_Piece_joined G_Piece_joined (hr.mono (by decide)) T.b_Piece_joined .nil pass0 (pa_cons (pe_call G_cut (hr.mono (by decide)) (by rfl) T.g_cut T.F_cut.kp T.b_cut .nil pass0 (pa_cons (pv 1) (pa_cons (pe_op op_add (pv 2) (pv 3)) (pa_cons (pe_op op_add (pe_op op_add (pv 2) (pv 3)) (pe_call G__law_take (hr.mono (by decide)) (by rfl) T.g__law_take T.F__law_take.kp T.b__law_take .nil pass0 (pa_cons (pv 0) (pa_cons pe_int pa_nil)))) pa_nil)))) pa_nil)))
    (pss_cons (ps_if (pt_not (pt_val (pe_callB (cr_all rfl) (by rfl) T.f_all (by decide +kernel) (pa_cons (pe_lc (own := [("_law_one", 8)]) rfl sc__law_piece_right.nd (pi_list (pe_call G_can_be (hr.mono (by decide)) (by rfl) T.g_can_be T.F_can_be.kp b2_can_be.2 b2_can_be.1 pass0 (pa_cons (pv 6) (pa_cons (pv 5) pa_nil)))) (blkOk_by (own := [("_law_one", 8)]) (N := N__law_piece_right) (sc := defScope s__law_piece_right) (by decide +kernel)) (fun _ _ _ _ _ => (pg_name (i := 8) sc__law_piece_right.nd rfl (Or.inl rfl))) (fun _ _ _ _ _ => pts_nil) (fun _ _ _ _ _ => (pe_call G__law_among (hr.mono (by decide)) (by rfl) T.g__law_among T.F__law_among.kp T.b__law_among .nil pass0 (pa_cons (pv 8) (pa_cons (pe_call G_can_be (hr.mono (by decide)) (by rfl) T.g_can_be T.F_can_be.kp b2_can_be.2 b2_can_be.1 pass0 (pa_cons (pv 4) (pa_cons (pv 5) pa_nil))) pa_nil))))) pa_nil))))
    (pss_one (ps_ret pe_bl))
    pss_nil)
    (pss_cons (ps_set (i := 7) sc__law_piece_right.nd rfl (Or.inl rfl) (pe_callTy call_list_of (by rfl) T.f_list (by decide +kernel) (pa_cons (pe_meth0 (pv 4) T.cl_Piece T.M_Piece_threads G_Piece_threads (hr.mono (by decide)) T.b_Piece_threads .nil pass0) pa_nil)))
    (pss_cons (ps_asg (pe_ix ix_list (pv 7) (pe_call G__law_take (hr.mono (by decide)) (by rfl) T.g__law_take T.F__law_take.kp T.b__law_take .nil pass0 (pa_cons (pv 0) (pa_cons (pv 3) pa_nil))) (fun _ _ => rfl)) (pg_sub (pv 7) (pe_call G__law_take (hr.mono (by decide)) (by rfl) T.g__law_take T.F__law_take.kp T.b__law_take .nil pass0 (pa_cons (pv 0) (pa_cons (pv 3) pa_nil))) set_list))
    (pss_one (ps_ret (pe_and (pe_call G__law_shown (hr.mono (by decide)) (by rfl) T.g__law_shown T.F__law_shown.kp T.b__law_shown .nil pass0 (pa_cons (pe_make T.mk_Piece G_Piece___init__ (hr.mono (by decide)) (by rfl) T.c_Piece T.b_Piece___init__ .nil pass0 (pa_cons (pe_callTy call_tuple_of (by rfl) T.f_tuple (by decide +kernel) (pa_cons (pv 7) pa_nil)) pa_nil)) (pa_cons (pv 5) pa_nil))) (pe_one (pe_cmpR op_ge (pe_callB call_len (by rfl) T.f_len (by decide +kernel) (pa_cons (pe_call G_can_be (hr.mono (by decide)) (by rfl) T.g_can_be T.F_can_be.kp b1_can_be.2 b1_can_be.1 pass0 (pa_cons (pv 6) pa_nil)) pa_nil)) (pe_callB call_len (by rfl) T.f_len (by decide +kernel) (pa_cons (pe_call G_can_be (hr.mono (by decide)) (by rfl) T.g_can_be T.F_can_be.kp b2_can_be.2 b2_can_be.1 pass0 (pa_cons (pv 6) (pa_cons (pv 5) pa_nil))) pa_nil)) (nomark _)))))))))))))))), ?_⟩
    have hBig : big = 1000000000000000000000000000000 := rfl
    have hR := hX.1
    have r0 := hR.ne
    have r1 := hR.most
    refine ⟨_, rfl, q, 60, rfl, hq, by decide, by decide, fun d H1 d0 d1 b1 q1 => ⟨_, _, rfl, rfl, ?_⟩⟩
    refine ⟨_, rfl, q, 28, rfl, q1, by decide, by decide, fun f H2 f0 f1 b2 q2 => ?_⟩
    refine ⟨(by show 2 ≤ sizeLine; decide), fun c hc => ⟨_, rfl, q, 2, rfl, q2.new hc, by decide, by decide, fun e H3 e0 e1 b3 q3 => ?_⟩⟩
    obtain ⟨h3, b23, _⟩ := pick_keepB q2 hc b3
    have f0' : -10000000000000000000000000000 < f := Int.lt_of_le_of_lt (by decide) f0
    have f1' : f < 10000000000000000000000000000 := Int.lt_of_lt_of_le f1 (by decide)
    obtain ⟨v, hv, hmm⟩ := at_any (xs := [V.int (d - 30), V.int f]) e0 e1
    obtain ⟨bg, rfl, g0, g1⟩ : ∃ st : Int, v = .int st ∧ -10000000000000000000000000000 < st ∧ st < 10000000000000000000000000000 := by
      simp only [List.mem_cons, List.not_mem_nil, or_false] at hmm
      rcases hmm with h | h <;> exact ⟨_, h, by omega, by omega⟩
    refine ⟨c, _, _, _, rfl, rfl, SqL.of h3, hv, ?_⟩
    refine ⟨_, rfl, (by show 2 ≤ sizeLine; decide), fun c2 hc2 => ⟨_, rfl, q, 2, rfl, q3.new hc2, by decide, by decide, fun e' H4 e0' e1' b4 q4 => ?_⟩⟩
    obtain ⟨h4, b34, _⟩ := pick_keepB q3 hc2 b4
    obtain ⟨v2, hv2, hmm2⟩ := at_any (xs := [V.int 12, V.int 80]) e0' e1'
    obtain ⟨mx, rfl, mx0, mx1⟩ : ∃ st : Int, v2 = .int st ∧ 1 ≤ st ∧ st ≤ 80 := by
      simp only [List.mem_cons, List.not_mem_nil, or_false] at hmm2
      rcases hmm2 with h | h <;> exact ⟨_, h, by omega, by omega⟩
    refine ⟨c2, _, _, _, rfl, rfl, SqL.of h4, hv2, q, mx, rfl, q4, by omega, by omega, fun g H5 g0' g1' b5 q5 => ⟨_, _, rfl, rfl, ?_⟩⟩
    have b05 := (((b1.trans b2).trans b23).trans b34).trans b5
    have hX5 := hX.butB' hq b05
    obtain ⟨g', rfl⟩ : ∃ g' : Nat, g = (g' : Nat) := ⟨g.toNat, by omega⟩
    have m0 : 0 < (1 + g') := by omega
    have m1 : (1 + g') ≤ 80 := by omega
    refine ⟨_, rfl, _, rfl, _, rfl, _, rfl, _, _, rfl, rfl, _, _, rfl, rfl, x, r, bg, bg + ((1 + g') : Nat) - 1, rfl, hX5, ⟨by rw [hBig]; omega, by rw [hBig]; omega⟩, ⟨by rw [hBig]; omega, by rw [hBig]; omega⟩, by omega, by omega, fun H6 pc S6 n6 hP => ?_⟩
    rw [show (bg + ((1 + g') : Nat) - 1 - bg + 1).toNat = (1 + g') by omega] at hP
    have hpl := fromTo_length r bg (1 + g')
    generalize hp : fromTo r bg (1 + g') = p at hP hpl
    have q6 := q5.same S6
    refine ⟨_, rfl, _, rfl, q, ((1 + g') : Nat), rfl, q6, by omega, by omega, fun u H7 u0 u1 b7 q7 => ⟨_, _, rfl, rfl, ?_⟩⟩
    obtain ⟨t', rfl⟩ : ∃ t' : Nat, u = (t' : Nat) := ⟨u.toNat, by omega⟩
    have t0 : 0 < (1 + t') := by omega
    have t1 : (1 + t') ≤ (1 + g') := by omega
    have hP7 := hP.butB q6 b7
    have hX7 := (hX5.same S6).butB' q6 b7
    have b07 := (b05.trans (But.of (p := q) S6)).trans b7
    refine ⟨_, rfl, _, rfl, pc, p, (1 + t'), rfl, hP7, t0, by omega, fun H8 S8 => ⟨_, rfl, iteF ?_⟩⟩
    refine ⟨_, rfl, _, rfl, pc, p, (1 + g'), rfl, hP7.same S8, m0, by omega, fun H9 S9 => ⟨_, rfl, iteF ?_⟩⟩
    have S79 := S8.trans S9
    have hX9 := hX7.same S79
    have hP9 := hP7.same S79
    obtain ⟨_, dx, tx, hx, _⟩ := id hX9
    have hne : ∀ {Hz : Hp} {as : List Addr}, RowsAt K Hz as (cb p (1 + t')) → (cb p (1 + t')).length ≤ 240 := fun _ => Nat.le_trans (cb_len p (1 + t')) (by omega)
    refine ⟨fun σ H' => σ = [some (.ref q), some (.ref x), some (.int bg), some (.int ((1 + g') : Nat)), some (.ref pc), some (.int ((1 + t') : Nat)), none, none, none] ∧ Same H9 H', ?_, fun σ Ha hM => ?_⟩
    · refine ⟨_, rfl, x, dx, _, rfl, hx, x, r, rfl, hX9, _, rfl, by omega, by omega, _, rfl, _, _, rfl, rfl, _, rfl, ite2 (fun c => ?_) fun c => ⟨rfl, Same.refl _⟩⟩
      have hLt : r.length ≤ (1 + t') := by
        have := of_decide_eq_true c
        omega
      refine ⟨_, rfl, x, dx, _, rfl, hx, rfl, _, rfl, _, _, rfl, rfl, x, r, 0 - bg, rfl, hX9, ⟨by rw [hBig]; omega, by rw [hBig]; omega⟩, fun Hb y r' hr' Sb ny hY => ?_⟩
      refine ⟨_, rfl, _, rfl, pc, p, _, (1 + t'), rfl, hP9.same Sb, .inl rfl, t0, by omega, fun Hc l as Sc nl hl hRs => ?_⟩
      refine ⟨y, l, r', as, cb p (1 + t'), rfl, hY.same Sc, hl, hRs, hne hRs, fun Hd Sd => ⟨_, rfl, ?_⟩⟩
      have hl' : r'.length = r.length := by
        have := spun_shift (st := -(0 - bg)) hR hr'.1 hr'.2
        rw [← this, List.length_map, List.length_range]
      obtain ⟨hS, hT⟩ := own_shows hR hr'.1 (bg := bg) (fun s => by rw [hr'.2]; congr 1; omega) hl' (m := (1 + g')) (by omega)
      rw [hp] at hS hT
      rw [decide_eq_true (cb_mem.mpr ⟨r.length, r0, hLt, hS, hT.symm⟩)]
      exact iteF ⟨rfl, (Sb.trans Sc).trans Sd⟩
    obtain ⟨rfl, S9a⟩ := hM
    have hXa := hX9.same S9a
    have hPa := hP9.same S9a
    have qa := q7.same (S79.trans S9a)
    have b0a := b07.trans (But.of (p := q) (S79.trans S9a))
    obtain ⟨_, dpa, tpa, hpa, _⟩ := id hPa
    refine ⟨_, rfl, pc, dpa, _, rfl, hpa, rfl, _, rfl, _, rfl, _, rfl, _, _, rfl, rfl, _, rfl, _, rfl, _, _, rfl, rfl, _, rfl, q, 30, rfl, qa, by decide, by decide, fun k Hb k0 k1 bb qb => ⟨_, _, rfl, rfl, ?_⟩⟩
    have hXb := hXa.butB' qa bb
    have hPb := hPa.butB qa bb
    refine ⟨x, r, bg + ((1 + g') : Nat), bg + ((1 + g') : Nat) + k, rfl, hXb, ⟨by rw [hBig]; omega, by rw [hBig]; omega⟩, ⟨by rw [hBig]; omega, by rw [hBig]; omega⟩, by omega, by omega, fun Hc c3 Sc nc hC3 => ?_⟩
    have hl3 := fromTo_length r (bg + ((1 + g') : Nat)) (bg + ((1 + g') : Nat) + k - (bg + ((1 + g') : Nat)) + 1).toNat
    generalize hp3 : fromTo r (bg + ((1 + g') : Nat)) (bg + ((1 + g') : Nat) + k - (bg + ((1 + g') : Nat)) + 1).toNat = p3 at hC3 hl3
    have hl3' : p3.length ≤ 30 := by omega
    refine ⟨pc, c3, p, p3, rfl, hPb.same Sc, hC3, by omega, fun Hd lg Sd nd hLg => ?_⟩
    have hpL : (p ++ p3).length = (1 + g') + p3.length := by rw [List.length_append, hpl]
    have Sbd := Sc.trans Sd
    have qd := qb.same Sbd
    have hPd := hPb.same Sbd
    have b0d := (b0a.trans bb).trans (But.of (p := q) Sbd)
    refine ⟨_, rfl, _, rfl, lg, p ++ p3, _, (1 + t'), rfl, hLg, .inl rfl, t0, by omega, fun He l2 as2 Se nl2 hl2 hR2 => ?_⟩
    have hml2 : (as2.map V.ref).length = as2.length := List.length_map ..
    have hc2l := cb_len (p ++ p3) (1 + t')
    refine ⟨l2, rfl, ⟨_, SqL.of hl2⟩, fun D hD => lc_it (walk_list (xs := as2.map V.ref)) (fun i H' => LcAt He D H' ((List.replicate i true).map V.bl)) (LcAt.start hD) (fun i H' _ hP => SqL.of (hP.same _ _ hl2)) (fun i y Hf Hg hi hL hy => ?_) fun Hf hL => ?_⟩
    · obtain ⟨rfl, hxx⟩ := hy
      obtain ⟨xa, ra, rfl, hra, hXra⟩ := (hR2.same hL.same).at_ hxx
      rw [hml2] at hi
      have hi2 := hR2.1
      refine ⟨rfl, _, rfl, _, rfl, _, rfl, pc, p, _, (1 + t'), rfl, hPd.same (Se.trans hL.same), .inl rfl, t0, by omega, fun Hh l4 as4 Sh nl4 hl4 hR4 => ?_⟩
      refine ⟨xa, l4, ra, as4, cb p (1 + t'), rfl, hXra.same Sh, hl4, hR4, hne hR4, fun Hi Si => ?_⟩
      obtain ⟨n, n0, n1, hS, er⟩ := cb_mem.mp (List.mem_of_getElem? hra)
      obtain ⟨hS2, e2⟩ := prefix_shows (by omega) hS
      have hin : ra ∈ cb p (1 + t') := cb_mem.mpr ⟨n, n0, n1, hS2, by rw [er, e2]⟩
      have hL2 := hL.keep (Sh.trans Si)
      refine ⟨_, hL2.it, small (by rw [List.length_map, List.length_replicate]; omega), ?_⟩
      rw [decide_eq_true hin, List.replicate_succ', List.map_append]
      exact hL2.push
    refine ⟨D, _, rfl, SqL.of hL.it, _, rfl, ?_⟩
    rw [show (List.replicate (as2.map V.ref).length true).all id = true by rw [List.all_eq_true]; intro b hb; exact List.eq_of_mem_replicate hb]
    refine iteF ?_
    have Sdf := Se.trans hL.same
    have hPf := hPd.same Sdf
    have hLf := hLg.same Sdf
    have qf := qd.same Sdf
    have b0f := b0d.trans (But.of (p := q) Sdf)
    obtain ⟨_, dpf, tpf, hpf, _⟩ := id hPf
    have hmp : (p.map V.str).length = p.length := List.length_map ..
    refine ⟨_, rfl, pc, dpf, _, rfl, hpf, rfl, pc, p, rfl, hPf, fun t3 ht3 => ⟨t3, _, rfl, .inr (SqT.of ht3), fun lw hlw => ?_⟩⟩
    have Sw := same_new (o := .lst (p.map V.str)) hlw
    have hw : (upd Hf lw (.lst (p.map V.str))) lw = some (.lst (p.map V.str)) := upd_same
    have lwq : lw ≠ q := qf.ne hlw
    have nw : H lw = none := free_butB qf b0f hlw
    have qw := qf.same Sw
    have hLw := hLf.same Sw
    have b0w := b0f.trans (But.of (p := q) Sw)
    generalize upd Hf lw (.lst (p.map V.str)) = Hw at *
    refine ⟨_, rfl, _, rfl, _, rfl, q, ((1 + g') : Nat), rfl, qw, by omega, by omega, fun i1 Hi i10 i11 bi qi => ?_⟩
    obtain ⟨z, hz, hzm⟩ := strs_at (zs := p) i10 (by omega)
    have hwi := bi _ _ lwq hw
    refine ⟨lw, _, _, .str z, rfl, rfl, SqL.of hwi, hz, ?_⟩
    refine ⟨_, rfl, _, rfl, _, rfl, q, ((1 + g') : Nat), rfl, qi, by omega, by omega, fun i2 Hj i20 i21 bj qj => ?_⟩
    have hwj := bj _ _ lwq hwi
    refine ⟨lw, _, i2, i2.toNat, rfl, rfl, hwj, ixN_of i20 (by rw [hmp]; omega), ?_⟩
    have hset : (p.map V.str).set i2.toNat (.str z) = (p.set i2.toNat z).map V.str := by rw [List.map_set]
    have bL : But lw Hj (upd Hj lw (.lst ((p.map V.str).set i2.toNat (.str z)))) := fun c o hc e => by
      rw [upd_ne hc]
      exact e
    have hw2 : (upd Hj lw (.lst ((p.map V.str).set i2.toNat (.str z)))) lw = some (.lst ((p.set i2.toNat z).map V.str)) := by rw [upd_same, hset]
    have hLj := ((hLw.butB qw bi).butB qi bj).butL hwj bL
    have b0j : But q H (upd Hj lw (.lst ((p.map V.str).set i2.toNat (.str z)))) := fun c o hc e => bL _ _ (fun e2 => by rw [e2, nw] at e; cases e) (((b0w.trans bi).trans bj) _ _ hc e)
    have qj2 : PoolB (upd Hj lw (.lst ((p.map V.str).set i2.toNat (.str z)))) q := let ⟨a1, a2, a3, a4⟩ := qj; ⟨a1, a2, bL _ _ (Ne.symm lwq) a3, a4⟩
    generalize upd Hj lw (.lst ((p.map V.str).set i2.toNat (.str z))) = Hk at *
    have hf := hP.1
    have hfw : FineT (p.set i2.toNat z) := ⟨fun e => by
      have h1 := congrArg List.length e
      rw [List.length_set] at h1
      have e0 : ([] : List Str).length = 0 := rfl
      omega, fun y hy => by
        rcases List.mem_or_eq_of_mem_set hy with h | h
        · exact hf.sh y h
        · rw [h]; exact hf.sh z hzm, by rw [List.length_set]; exact hf.most⟩
    refine ⟨_, rfl, lw, _, rfl, .inl ⟨SqL.of hw2, fun t5 ht5 => ?_⟩⟩
    have S5' := same_new (o := .tup ((p.set i2.toNat z).map V.str)) ht5
    refine fun y dy hy hdy ney => pinit_at hy hdy ney upd_same hfw fun Hl Sl hY => ⟨rfl, ?_⟩
    refine ⟨_, rfl, y, p.set i2.toNat z, (1 + t'), rfl, hY, t0, by rw [List.length_set]; omega, fun Hm Sm => ⟨_, rfl, iteT ?_⟩⟩
    have Skm := (S5'.trans Sl).trans Sm
    have hLm := hLj.same Skm
    refine ⟨_, rfl, lg, p ++ p3, .non, (p ++ p3).length, rfl, hLm, .inr ⟨rfl, rfl⟩, by omega, Nat.le_refl _, fun Hn l6 as6 Sn n6 hl6 hR6 => ⟨_, _, rfl, Or.inl ⟨_, SqL.of hl6, rfl⟩, ?_⟩⟩
    refine ⟨_, rfl, _, rfl, lg, p ++ p3, _, (1 + t'), rfl, hLm.same Sn, .inl rfl, t0, by omega, fun Ho l7 as7 So n7 hl7 hR7 => ⟨_, _, rfl, Or.inl ⟨_, SqL.of hl7, rfl⟩, _, _, rfl, rfl, ?_⟩⟩
    have hgrow := cb_grow (p ++ p3) (show (1 + t') ≤ (p ++ p3).length by omega)
    have h6 := hR6.1
    have h7 := hR7.1
    have Sko := (Skm.trans Sn).trans So
    have fin := hQ _ (b0j.trans (But.of (p := q) Sko)) (qj2.same Sko)
    have eb : decide ((((as6.map V.ref).length : Nat) : Int) ≥ (((as7.map V.ref).length : Nat) : Int)) = true := decide_eq_true (by rw [List.length_map, List.length_map]; omega)
    show Q (.bl (decide ((((as6.map V.ref).length : Nat) : Int) ≥ (((as7.map V.ref).length : Nat) : Int)))) Ho
    rw [eb]
    exact fin
end
end S11

namespace S11
open PySem PySem.Spec PyProof.Rows L2 L2.Own He Sl
theorem least_ex (ws : List Str) : ∀ n : Nat, 0 < n → n ≤ ws.length → rot ws n = ws → ∃ d, Least ws d ∧ d ≤ n := by
  intro n
  induction n using Nat.strongRecOn with
  | _ n ih =>
    intro n0 n1 e
    by_cases h : ∃ j, 0 < j ∧ j < n ∧ rot ws j = ws
    · obtain ⟨j, j0, j1, ej⟩ := h
      obtain ⟨d, hd, hd2⟩ := ih j j1 j0 (by omega) ej
      exact ⟨d, hd, by omega⟩
    · exact ⟨n, ⟨n0, n1, e, fun j j0 j1 ej => h ⟨j, j0, j1, ej⟩⟩, Nat.le_refl _⟩
theorem two_in {α : Type} {l : List α} {x y : α} (hx : x ∈ l) (hy : y ∈ l) (ne : x ≠ y) : 1 < l.length := by
  match l, hx, hy with
  | [], hx, _ => exact absurd hx List.not_mem_nil
  | [a], hx, hy => exact absurd ((List.mem_singleton.mp hx).trans (List.mem_singleton.mp hy).symm) ne
  | _ :: _ :: _, _, _ => simp
/-- with one thread less it is not enough somewhere -/
theorem two_found {r : List Str} (hr : RowOk r) {u m : Nat} (hu : r.length ≤ u) (u1 : u ≤ 240) (hm : u < m) (hE : EnoughV r (u : Nat) (m : Nat)) : ∃ c : Nat, c < r.length ∧ 1 < (cb (fromTo r (c : Nat) (m - 1)) u).length := by
  have r0 := hr.ne
  rcases hE.2.2 with h | ⟨b, b0, b1, k, hk, he⟩
  · omega
  obtain ⟨⟨s, hs⟩, _⟩ := hk
  obtain ⟨s0, s1⟩ := emod_in s r0
  have hs' := run_mod hs
  unfold mist at he
  obtain ⟨a0, a1⟩ := emod_in ((u : Nat) - b) r0
  obtain ⟨G, hG⟩ : ∃ G : Nat, ((G : Nat) : Int) = (u : Nat) - ((u : Nat) - b) % (r.length : Nat) := ⟨((u : Nat) - ((u : Nat) - b) % (r.length : Nat)).toNat, by omega⟩
  have hmG : m - 1 = G + k := by omega
  have hGm : ((G : Nat) : Int) % (r.length : Nat) = b % (r.length : Nat) := by
    rw [hG, Int.sub_emod, Int.emod_emod, ← Int.sub_emod]
    congr 1
    omega
  have hbm : b % (r.length : Nat) = b := Int.emod_eq_of_lt (by omega) b1
  have nd : G % r.length ≠ 0 := fun e => by
    rw [← Int.natCast_emod, e] at hGm
    rw [hbm] at hGm
    have : (0 : Int) = b := hGm
    omega
  have G0 : 0 < G := by
    rcases Nat.eq_zero_or_pos G with q | q
    · rw [q] at nd
      exact absurd (Nat.zero_mod _) nd
    · exact q
  have Gu : G ≤ u := by omega
  refine ⟨(s % (r.length : Nat)).toNat, by omega, ?_⟩
  rw [Int.toNat_of_nonneg s0, hmG]
  have hml := fromTo_length r (s % (r.length : Nat)) (G + k)
  have hrunG := run_of_mod hGm.symm hs'
  have hpG : PerL (fromTo r (s % (r.length : Nat)) (G + k)) G := from_per fun i hi => hrunG i (by omega)
  have hL : Shows (fromTo r (s % (r.length : Nat)) (G + k)) r.length := own_shows2 hr _ (by omega)
  have hsh : ∀ z ∈ fromTo r (s % (r.length : Nat)) (G + k), isSh z = true := fun z hz => by
    unfold fromTo at hz
    obtain ⟨j, _, rfl⟩ := List.mem_map.mp hz
    exact hr.sh _ (at_mem r0 _)
  generalize fromTo r (s % (r.length : Nat)) (G + k) = p at *
  have hwl : (p.take G).length = G := by rw [List.length_take]; omega
  obtain ⟨d, hd, hdG⟩ := least_ex (p.take G) G G0 (by omega) (by have := rot_full (p.take G); rw [hwl] at this; exact this)
  have d0 := hd.pos
  have hdv : G % d = 0 := by have := hd.dvd; rw [hwl] at this; exact this
  have etk : p.take d = (p.take G).take d := by rw [List.take_take, Nat.min_eq_left hdG]
  have hrd : RowOk ((p.take G).take d) := hd.rowOk (fun z hz => hsh z (List.mem_of_mem_take hz)) (by omega)
  have hld : ((p.take G).take d).length = d := by rw [List.length_take]; omega
  have per := (rot_iff (by omega)).mp hd.eq
  have hSd : Shows p d := by
    refine ⟨perL_iff.mpr fun i hi => ?_, ?_⟩
    · rw [take_at G0 (by omega) hpG (i + d) hi, take_at G0 (by omega) hpG i (by omega)]
      congr 1
      have := per (i : Nat)
      rw [← this]
      congr 1
    · rw [etk]
      have := row_least hrd
      rw [hld] at this
      exact this
  refine two_in (cb_mem.mpr ⟨r.length, r0, hu, hL, rfl⟩) (cb_mem.mpr ⟨d, d0, by omega, hSd, rfl⟩) fun e => ?_
  have el := congrArg List.length e
  rw [List.length_take, List.length_take] at el
  have : r.length = d := by omega
  rw [← this] at hdv
  exact nd hdv
def spEnoughR (K : PySem.W.Frag) : Sp := fun vs H Q _ => ∃ (q x : Addr) (r : List Str), vs = [.ref q, .ref x] ∧ PoolB H q ∧ RowAt K H x r ∧ r.length ≤ 30 ∧ ∀ H', But q H H' → PoolB H' q → Q (.bl true) H'
section
variable {P : Program} {w : World} {K : PySem.W.Frag} {mg : Str → Option Value} {base : Heap}
/- slots: 0 _law_pool_here, 1 _law_band, 2 _law_upto, 3 _law_many, 4 _law_begun, 5 _law_found, 6 _law_more, 7 _law_at; cells _law_band _law_many _law_upto -/
def N__law_enough_right : List Str := ["_law_pool_here", "_law_band", "_law_upto", "_law_many", "_law_begun", "_law_found", "_law_more", "_law_at"]
theorem sc__law_enough_right : FnScope N__law_enough_right ["_law_pool_here", "_law_band"] (defScope s__law_enough_right) := ⟨rfl, rfl, rfl, by decide +kernel, rfl, by decide +kernel, by decide +kernel⟩
theorem ok__law_enough_right (T : Txt K mg) : FnOk P w K mg base CX0 15 (ga K "_law_enough_right") (fdOf K "_law_enough_right") ["_law_pool_here", "_law_band"] (spEnoughR K) := by
  have G_Row___len__ := ok_Row___len__ (P := P) (w := w) (base := base) T
  have G__law_take := ok__law_take (P := P) (w := w) (base := base) T
  have G_enough := ok_enough (P := P) (w := w) (base := base) T
  have G__law_far := ok__law_far (P := P) (w := w) (base := base) T
  have G_can_be := ok_can_be (P := P) (w := w) (base := base) T
  have G_cut := ok_cut (P := P) (w := w) (base := base) T
  have G_Row_alike := ok_Row_alike (P := P) (w := w) (base := base) T
  have G_Row_moved := ok_Row_moved (P := P) (w := w) (base := base) T
  obtain ⟨ds2_can_be, b2_can_be⟩ := T.b2_can_be
  refine T.F__law_enough_right.ok sc__law_enough_right (fun vs H Q E h => ?_) (fun cdv A outer s H vs Q E hr h => ?_)
  · obtain ⟨q, x, r, rfl, _⟩ := h
    rfl
  · obtain ⟨q, x, r, rfl, hq, hX, l30, hQ⟩ := h
    refine ⟨_, PSs.nox (pss_cons (ps_set (i := 2) sc__law_enough_right.nd rfl (Or.inr rfl) (pe_op op_add (pe_callB (call_lenI T.M_Row___len__.at_ T.M_Row___len__.fn (G_Row___len__.raw T.b_Row___len__ .nil) (hr.mono (by decide)) pass0) (by rfl) T.f_len (by decide +kernel) (pa_cons (pv 1) pa_nil)) (pe_call G__law_take (hr.mono (by decide)) (by rfl) T.g__law_take T.F__law_take.kp T.b__law_take .nil pass0 (pa_cons (pv 0) (pa_cons pe_int pa_nil)))))
    (pss_cons (ps_set (i := 3) sc__law_enough_right.nd rfl (Or.inr rfl) (pe_call G_enough (hr.mono (by decide)) (by rfl) T.g_enough T.F_enough.kp T.b_enough .nil pass0 (pa_cons (pv 1) (pa_cons (pv 2) pa_nil))))
    (pss_cons (ps_if (PW.pt (pw_or (pt_cmpR op_lt (pv 3) (pv 2) (nomark _)) (pw_or1 (pt_cmpR op_gt (pv 3) pe_int (nomark _)))))
    (pss_one (ps_ret (pe_cmpR op_gt (pv 3) pe_int (nomark _))))
    pss_nil)
    (pss_cons (ps_for PassesOwn.never rfl (pi_list (pe_lst (pa_cons (pe_call G__law_far (hr.mono (by decide)) (by rfl) T.g__law_far T.F__law_far.kp T.b__law_far .nil pass0 (pa_cons (pv 0) (pa_cons pe_int pa_nil))) (pa_cons (pe_call G__law_take (hr.mono (by decide)) (by rfl) T.g__law_take T.F__law_take.kp T.b__law_take .nil pass0 (pa_cons (pv 0) (pa_cons pe_int pa_nil))) pa_nil)))) (pg_name (i := 4) sc__law_enough_right.nd rfl (Or.inl rfl))
    (pss_cons (ps_set (i := 5) sc__law_enough_right.nd rfl (Or.inl rfl) (pe_call G_can_be (hr.mono (by decide)) (by rfl) T.g_can_be T.F_can_be.kp b2_can_be.2 b2_can_be.1 pass0 (pa_cons (pe_call G_cut (hr.mono (by decide)) (by rfl) T.g_cut T.F_cut.kp T.b_cut .nil pass0 (pa_cons (pv 1) (pa_cons (pv 4) (pa_cons (pe_op op_sub (pe_op op_add (pv 4) (pv 3)) pe_int) pa_nil)))) (pa_cons (pv 2) pa_nil))))
     (pss_one (ps_if (PW.pt (pw_or (pt_cmpR op_ne (pe_callB call_len (by rfl) T.f_len (by decide +kernel) (pa_cons (pv 5) pa_nil)) pe_int (nomark _)) (pw_or1 (pt_not (pt_val (pe_meth (pe_ix ix_list (pv 5) pe_int (fun _ _ => rfl)) T.cl_Row T.M_Row_alike G_Row_alike (hr.mono (by decide)) T.b_Row_alike .nil pass0 (pa_cons (pe_meth (pv 1) T.cl_Row T.M_Row_moved G_Row_moved (hr.mono (by decide)) T.b_Row_moved .nil pass0 (pa_cons (pe_op op_sub pe_int (pv 4)) pa_nil)) pa_nil)))))))
     (pss_one (ps_ret pe_bl))
     pss_nil))))
    (pss_cons (ps_if (pt_cmpR op_eq (pv 3) (pv 2) (nomark _))
    (pss_one (ps_ret pe_bl))
    pss_nil)
    (pss_cons (ps_setLc (i := 6) (own := [("_law_at", 7)]) rfl sc__law_enough_right.nd rfl rfl (sw_true rfl rfl rfl (by decide +kernel)) (pi_range1 (by rfl) T.f_range (pa_cons (pe_callB (call_lenI T.M_Row___len__.at_ T.M_Row___len__.fn (G_Row___len__.raw T.b_Row___len__ .nil) (hr.mono (by decide)) pass0) (by rfl) T.f_len (by decide +kernel) (pa_cons (pv 1) pa_nil)) pa_nil)) (blkOk_by (own := [("_law_at", 7)]) (N := N__law_enough_right) (sc := defScope s__law_enough_right) (by decide +kernel)) (fun _ _ _ _ _ => (pg_name (i := 7) sc__law_enough_right.nd rfl (Or.inl rfl))) (fun _ _ _ _ _ => pts_nil) (fun _ _ _ _ _ => (pe_callB (call_lenK (K := K) rfl) (by rfl) T.f_len (by decide +kernel) (pa_cons (pe_call G_can_be (hr.mono (by decide)) (by rfl) T.g_can_be T.F_can_be.kp b2_can_be.2 b2_can_be.1 pass0 (pa_cons (pe_call G_cut (hr.mono (by decide)) (by rfl) T.g_cut T.F_cut.kp T.b_cut .nil pass0 (pa_cons (pv 1) (pa_cons (pv 7) (pa_cons (pe_op op_sub (pe_op op_add (pv 7) (pv 3)) pe_int) pa_nil)))) (pa_cons (pv 2) pa_nil))) pa_nil))))
    (pss_one (ps_ret (pe_and (pe_cmpR op_gt (pe_callB (cr_max rfl) (by rfl) T.f_max (by decide +kernel) (pa_cons (pv 6) pa_nil)) pe_int (nomark _)) (pe_one (pe_cmpR op_gt (pe_callB (cr_min rfl) (by rfl) T.f_min (by decide +kernel) (pa_cons (pv 6) pa_nil)) pe_int (nomark _)))))))))))), ?_⟩
    have hBig : big = 1000000000000000000000000000000 := rfl
    obtain ⟨hR, dx, tx, hx, htx⟩ := id hX
    have r0 := hR.ne
    refine ⟨_, rfl, x, dx, _, rfl, hx, x, r, rfl, hX, _, rfl, by omega, by omega, _, rfl, q, 9, rfl, hq, by decide, by decide, fun d H1 d0 d1 b1 q1 => ⟨_, _, rfl, rfl, ?_⟩⟩
    obtain ⟨d', rfl⟩ : ∃ d' : Nat, d = (d' : Nat) := ⟨d.toNat, by omega⟩
    have hX1 := hX.butB' hq b1
    refine ⟨_, rfl, _, rfl, x, r, ((r.length + d' : Nat) : Int), rfl, hX1, by omega, by omega, fun H2 e S2 hE => ?_⟩
    have hm1 := hE.1
    obtain ⟨m, rfl⟩ : ∃ m : Nat, e = (m : Nat) := ⟨e.toNat, by omega⟩
    have q2 := q1.same S2
    have hX2 := hX1.same S2
    have b02 := b1.trans (But.of (p := q) S2)
    refine ⟨_, rfl, _, rfl, _, _, rfl, rfl, _, rfl, ite2 (fun c => absurd (show ((m : Nat) : Int) < ((r.length + d' : Nat) : Int) from of_decide_eq_true c) (by omega)) fun _ => ?_⟩
    refine ⟨_, rfl, _, _, rfl, rfl, _, rfl, ite2 (fun c => ?_) fun c => ?_⟩
    · refine ⟨_, rfl, _, _, rfl, rfl, ?_⟩
      have c' : decide (((m : Nat) : Int) > 240) = true := c
      show Q (.bl (decide (((m : Nat) : Int) > 240))) H2
      rw [c']
      exact hQ _ b02 q2
    have m240 : m ≤ 240 := by
      have : ¬ ((m : Nat) : Int) > 240 := fun h => c (decide_eq_true h)
      omega
    refine ⟨_, rfl, q, 20, rfl, q2, by decide, by decide, fun f H3 f0 f1 b3 q3 => ?_⟩
    refine ⟨_, rfl, q, 50, rfl, q3, by decide, by decide, fun g H4 g0 g1 b4 q4 => ?_⟩
    have f0' : -100000000000000000000 < f := Int.lt_of_le_of_lt (by decide) f0
    have f1' : f < 100000000000000000000 := Int.lt_of_lt_of_le f1 (by decide)
    refine ⟨(by show 2 ≤ sizeLine; decide), fun c hc => ⟨c, rfl, ⟨_, SqL.of upd_same⟩, ?_⟩⟩
    have Ss := same_new (o := .lst [V.int f, V.int g]) hc
    have hcs : (upd H4 c (.lst [V.int f, V.int g])) c = some (.lst [V.int f, V.int g]) := upd_same
    have qs := q4.same Ss
    have hXs := ((hX2.butB' q2 b3).butB' q3 b4).same Ss
    have b0s := ((b02.trans b3).trans b4).trans (But.of (p := q) Ss)
    generalize upd H4 c (.lst [V.int f, V.int g]) = Hs at *
    refine for_it (walk_list (xs := [V.int f, V.int g])) (fun i σ H' => ∃ u4 u5, σ = [some (.ref q), some (.ref x), some (.int ((r.length + d' : Nat) : Int)), some (.int (m : Nat)), u4, u5, none, none] ∧ Same Hs H') ⟨none, none, rfl, Same.refl _⟩ (fun i σ H' _ hP => ?_) (fun i y σ H5 H5' hi hP hy => ?_) fun σ H5 hP => ?_
    · obtain ⟨u4, u5, _, S5⟩ := hP
      exact SqL.of (S5 _ _ hcs)
    · obtain ⟨u4, u5, rfl, S5⟩ := hP
      obtain ⟨rfl, hxx⟩ := hy
      obtain ⟨bg, rfl, bg0, bg1⟩ : ∃ st : Int, y = .int st ∧ -100000000000000000000 < st ∧ st < 100000000000000000000 := by
        have hmm := List.mem_of_getElem? hxx
        simp only [List.mem_cons, List.not_mem_nil, or_false] at hmm
        rcases hmm with h | h <;> exact ⟨_, h, by omega, by omega⟩
      have hX5 := hXs.same S5
      refine ⟨_, rfl, _, rfl, _, rfl, _, rfl, _, _, rfl, rfl, _, _, rfl, rfl, x, r, bg, bg + (m : Nat) - 1, rfl, hX5, ⟨by rw [hBig]; omega, by rw [hBig]; omega⟩, ⟨by rw [hBig]; omega, by rw [hBig]; omega⟩, by omega, by omega, fun H6 pc S6 n6 hP => ?_⟩
      rw [show (bg + (m : Nat) - 1 - bg + 1).toNat = m by omega] at hP
      refine ⟨_, rfl, pc, fromTo r bg m, _, r.length + d', rfl, hP, .inl rfl, by omega, by rw [fromTo_length]; omega, fun H7 l as S7 nl hl hRs => ?_⟩
      rw [enough_one hR bg (by omega) (by omega) hE] at hRs
      obtain ⟨xa, rfl⟩ : ∃ xa, as = [xa] := List.length_eq_one_iff.mp hRs.1
      obtain ⟨ra, era, hXa⟩ := hRs.2 0 xa rfl
      have era : (fromTo r bg m).take r.length = ra := Option.some.inj era
      obtain ⟨_, dxa, _, hxa, _⟩ := id hXa
      have hX7 := hX5.same (S6.trans S7)
      obtain ⟨_, dx7, _, hx7, _⟩ := id hX7
      refine ⟨_, rfl, _, _, rfl, Or.inl ⟨_, SqL.of hl, rfl⟩, rfl, _, rfl, ite2 (fun c => absurd c (eq_nd rfl)) fun _ => ?_⟩
      refine ⟨_, rfl, l, _, _, .ref xa, rfl, rfl, SqL.of hl, atI_nat (j := 0) rfl, xa, dxa, _, rfl, hxa, rfl, _, rfl, x, dx7, _, rfl, hx7, rfl, _, rfl, _, _, rfl, rfl, x, r, 0 - bg, rfl, hX7, ⟨by rw [hBig]; omega, by rw [hBig]; omega⟩, fun H8 y r' hr' S8 ny hY => ?_⟩
      have hl' : r'.length = r.length := by
        have := spun_shift (st := -(0 - bg)) hR hr'.1 hr'.2
        rw [← this, List.length_map, List.length_range]
      obtain ⟨_, hT⟩ := own_shows hR hr'.1 (bg := bg) (fun s => by rw [hr'.2]; congr 1; omega) hl' (m := m) (by omega)
      have err : ra = r' := era.symm.trans hT
      refine ⟨xa, y, ra, r', rfl, hXa.same S8, hY, _, rfl, ?_⟩
      rw [decide_eq_true err]
      exact iteF ⟨_, _, rfl, S5.trans ((S6.trans S7).trans S8)⟩
    · obtain ⟨u4, u5, rfl, S5⟩ := hP
      have b05 := b0s.trans (But.of (p := q) S5)
      have q5 := qs.same S5
      have hX5 := hXs.same S5
      obtain ⟨_, dx5, _, hx5, _⟩ := id hX5
      refine ⟨_, rfl, _, rfl, rfl, _, rfl, ite2 (fun c => hQ _ b05 q5) fun c => ?_⟩
      have hmu : r.length + d' < m := by
        have : ¬ m = r.length + d' := fun h => c (decide_eq_true (by rw [h]))
        omega
      refine ⟨_, rfl, x, dx5, _, rfl, hx5, x, r, rfl, hX5, _, rfl, by omega, by omega, ((r.length : Nat) : Int), rfl, by omega, by omega, ?_⟩
      refine fun D hD => lc_it (walk_range (lo := 0) (n := ((r.length : Nat) : Int).toNat)) (fun i H' => ∃ ns : List Int, LcAt H5 D H' (ns.map V.int) ∧ ns.length = i ∧ ∀ j : Nat, j < i → ns[j]? = some (((cb (fromTo r (j : Nat) (m - 1)) (r.length + d')).length : Nat) : Int)) ⟨[], LcAt.start hD, rfl, fun j hj => absurd hj (Nat.not_lt_zero _)⟩ (fun _ _ _ _ => True.intro) (fun i y Ha Hb hi hP hy => ?_) fun Ha hP => ?_
      · obtain ⟨ns, hL, hnl, hns⟩ := hP
        obtain ⟨rfl, rfl⟩ := hy
        have hi' : i < r.length := hi
        refine ⟨rfl, _, rfl, _, rfl, _, rfl, _, rfl, _, _, rfl, rfl, _, _, rfl, rfl, x, r, 0 + (i : Nat), 0 + (i : Nat) + (m : Nat) - 2, rfl, hX5.same hL.same, ⟨by rw [hBig]; omega, by rw [hBig]; omega⟩, ⟨by rw [hBig]; omega, by rw [hBig]; omega⟩, by omega, by omega, fun Hc pc Sc nc hP => ?_⟩
        rw [show (0 + ((i : Nat) : Int) + (m : Nat) - 2 - (0 + (i : Nat)) + 1).toNat = m - 1 by omega, Int.zero_add] at hP
        refine ⟨_, rfl, pc, fromTo r (i : Nat) (m - 1), _, r.length + d', rfl, hP, .inl rfl, by omega, by rw [fromTo_length]; omega, fun Hd l as Sd nl hl hRs => ?_⟩
        have hL2 := hL.keep (Sc.trans Sd)
        refine ⟨_, _, rfl, Or.inl ⟨_, SqL.of hl, rfl⟩, _, hL2.it, small (by rw [List.length_map, hnl]; omega), ns ++ [(((as.map V.ref).length : Nat) : Int)], ?_, by rw [List.length_append, hnl]; rfl, fun j hj => ?_⟩
        · rw [List.map_append]
          exact hL2.push
        · rcases Nat.lt_or_ge j i with q | q
          · rw [List.getElem?_append_left (by omega)]
            exact hns j q
          · have ej : j = i := by omega
            subst ej
            rw [← hnl, List.getElem?_concat_length, List.length_map, hRs.1, hnl]
      obtain ⟨ns, hL, hnl, hns⟩ := hP
      have hnl' : ns.length = r.length := hnl
      obtain ⟨cc, hcc, h2⟩ := two_found hR (u := r.length + d') (m := m) (by omega) (by omega) hmu hE
      have pos : ∀ z ∈ ns, 0 < z := fun z hz => by
        obtain ⟨j, hj⟩ := List.mem_iff_getElem?.mp hz
        have hjl := (List.getElem?_eq_some_iff.mp hj).1
        rw [hns j (by show j < ((r.length : Nat) : Int).toNat; omega)] at hj
        have e := Option.some.inj hj
        have hmem : (fromTo r (j : Nat) (m - 1)).take r.length ∈ cb (fromTo r (j : Nat) (m - 1)) (r.length + d') := cb_mem.mpr ⟨r.length, r0, by omega, own_shows2 hR _ (by omega), rfl⟩
        have := List.length_pos_of_mem hmem
        omega
      refine ⟨_, rfl, D, ns, rfl, SqL.of hL.it, by omega, fun mx hmx hmxp => ⟨_, _, rfl, rfl, _, rfl, ?_⟩⟩
      have h2' := hmxp _ (List.mem_of_getElem? (hns cc (by show cc < ((r.length : Nat) : Int).toNat; omega)))
      rw [decide_eq_true (show mx > 1 by omega)]
      refine iteT ?_
      refine ⟨_, rfl, D, ns, rfl, SqL.of hL.it, by omega, fun mn hmn hmnp => ⟨_, _, rfl, rfl, ?_⟩⟩
      have eb : decide (mn > 0) = true := decide_eq_true (pos mn hmn)
      show Q (.bl (decide (mn > 0))) Ha
      rw [eb]
      exact hQ _ (b05.trans (But.of (p := q) hL.same)) (q5.same hL.same)
end
end S11

namespace S11
open PySem PySem.Spec PyProof.Rows L2 L2.Own He Sl
def spLaw (K : PySem.W.Frag) : Sp := fun vs H Q _ => ∃ (a : Addr) (ns : List Int), vs = [.ref a] ∧ SqL K H a (ns.map V.int) ∧ ∀ H', Q (.bl true) H'
theorem rng2 (J : Int) (h1 : 1 ≤ J) (h2 : J ≤ 8) : ∃ n, RgC 0 J 2 n ∧ n ≤ 5 := by
  rcases (show J = 1 ∨ J = 2 ∨ J = 3 ∨ J = 4 ∨ J = 5 ∨ J = 6 ∨ J = 7 ∨ J = 8 by omega) with h | h | h | h | h | h | h | h <;> subst h <;> exact ⟨_, ⟨by decide, by decide, by decide +kernel, rfl⟩, by decide +kernel⟩
theorem but_same {H H1 H2 : Hp} {p : Addr} (s : Same H H1) (hp : H p = none) (b : But p H1 H2) : Same H H2 := fun x o h => b x o (ne_of_none h hp) (s x o h)
section
variable {P : Program} {w : World} {K : PySem.W.Frag} {mg : Str → Option Value} {base : Heap}
/- slots: 0 _law_script, 1 _law_k, 2 _law_band, 3 _law_words, 4 _law_pool_here, 5 _law_turn -/
def N_law : List Str := ["_law_script", "_law_k", "_law_band", "_law_words", "_law_pool_here", "_law_turn"]
theorem sc_law : FnScope N_law ["_law_script"] (defScope s_law) := ⟨rfl, rfl, rfl, by decide +kernel, rfl, by decide +kernel, by decide +kernel⟩
theorem ok_law (T : Txt K mg) : FnOk P w K mg base CX0 17 (ga K "law") (fdOf K "law") ["_law_script"] (spLaw K) := by
  have G__law_drawn := ok__law_drawn (P := P) (w := w) (base := base) T
  have G__law_pool := ok__law_pool (P := P) (w := w) (base := base) T
  have G__law_piece_right := ok__law_piece_right (P := P) (w := w) (base := base) T
  have G_Row___len__ := ok_Row___len__ (P := P) (w := w) (base := base) T
  have G__law_enough_right := ok__law_enough_right (P := P) (w := w) (base := base) T
  refine T.F_law.ok sc_law (fun vs H Q E h => ?_) (fun cdv A outer s H vs Q E hr h => ?_)
  · obtain ⟨a, ns, rfl, _⟩ := h
    rfl
  · obtain ⟨a, ns, rfl, ha, hQ⟩ := h
    refine ⟨_, PSs.nox (pss_cons (ps_for PassesOwn.never rfl (pi_range3 (by rfl) T.f_range (pa_cons pe_int (pa_cons (pe_callB (call_max2 rfl) (by rfl) T.f_max (by decide +kernel) (pa_cons pe_int (pa_cons (pe_callB (call_min2 rfl) (by rfl) T.f_min (by decide +kernel) (pa_cons (pe_callB call_len (by rfl) T.f_len (by decide +kernel) (pa_cons (pv 0) pa_nil)) (pa_cons pe_int pa_nil))) pa_nil))) (pa_cons pe_int pa_nil)))) (pg_name (i := 1) sc_law.nd rfl (Or.inl rfl))
    (pss_cons (ps_asg (pe_call G__law_drawn (hr.mono (by decide)) (by rfl) T.g__law_drawn T.F__law_drawn.kp T.b__law_drawn .nil pass0 (pa_cons (pe_call G__law_pool (hr.mono (by decide)) (by rfl) T.g__law_pool T.F__law_pool.kp T.b__law_pool .nil pass0 (pa_cons (pv 0) (pa_cons (pv 1) pa_nil))) (pa_cons pe_int (pa_cons pe_int pa_nil)))) (pg_tup rfl (pgs_cons (pg_name (i := 2) sc_law.nd rfl (Or.inl rfl)) (pgs_cons (pg_name (i := 3) sc_law.nd rfl (Or.inl rfl)) pgs_nil))))
     (pss_cons (ps_set (i := 4) sc_law.nd rfl (Or.inl rfl) (pe_call G__law_pool (hr.mono (by decide)) (by rfl) T.g__law_pool T.F__law_pool.kp T.b__law_pool .nil pass0 (pa_cons (pv 0) (pa_cons (pe_op op_add (pv 1) pe_int) pa_nil))))
     (pss_cons (ps_for PassesOwn.never rfl (pi_range1 (by rfl) T.f_range (pa_cons pe_int pa_nil)) (pg_name (i := 5) sc_law.nd rfl (Or.inl rfl))
     (pss_one (ps_if (pt_not (pt_val (pe_call G__law_piece_right (hr.mono (by decide)) (by rfl) T.g__law_piece_right T.F__law_piece_right.kp T.b__law_piece_right .nil pass0 (pa_cons (pv 4) (pa_cons (pv 2) pa_nil)))))
      (pss_one (ps_ret pe_bl))
      pss_nil)))
     (pss_one (ps_if (PW.pt (pw_and (pt_cmpR op_lt (pe_callB (call_lenI T.M_Row___len__.at_ T.M_Row___len__.fn (G_Row___len__.raw T.b_Row___len__ .nil) (hr.mono (by decide)) pass0) (by rfl) T.f_len (by decide +kernel) (pa_cons (pv 2) pa_nil)) pe_int (nomark _)) (pw_and1 (pt_not (pt_val (pe_call G__law_enough_right (hr.mono (by decide)) (by rfl) T.g__law_enough_right T.F__law_enough_right.kp T.b__law_enough_right .nil pass0 (pa_cons (pv 4) (pa_cons (pv 2) pa_nil))))))))
     (pss_one (ps_ret pe_bl))
     pss_nil))))))
    (pss_one (ps_ret pe_bl))), ?_⟩
    refine ⟨_, rfl, _, _, rfl, Or.inl ⟨_, ha, rfl⟩, _, _, rfl, _, _, rfl, ?_⟩
    refine (rng2 _ ?_ ?_).elim fun n hn => ⟨0, _, 2, n, rfl, hn.1, ?_⟩
    · split <;> split <;> omega
    · split <;> split <;> omega
    obtain ⟨hn1, hn5⟩ := hn
    refine for_it walk_rangeC (fun i σ H' => ∃ u1 u2 u3 u4 u5, σ = [some (.ref a), u1, u2, u3, u4, u5] ∧ Same H H') ⟨none, none, none, none, none, rfl, Same.refl H⟩ (fun _ _ _ _ _ => True.intro) (fun i x σ H0 H1 hi hP hy => ?_) fun σ H1 hP => ?_
    · obtain ⟨u1, u2, u3, u4, u5, rfl, S1⟩ := hP
      obtain ⟨rfl, rfl⟩ := hy
      refine ⟨_, rfl, _, rfl, a, ns, _, rfl, S1.seq ha, by omega, by omega, fun H2 p S2 hp q2 => ?_⟩
      refine ⟨p, rfl, q2, fun H3 t b l r b3 ht hB hl => ?_⟩
      have S3 : Same H1 H3 := but_same S2 hp b3
      have S03 := S1.trans S3
      refine ⟨t, _, rfl, SqT.of ht, rfl, _, _, rfl, _, _, rfl, rfl, ?_⟩
      refine ⟨_, rfl, _, rfl, _, _, rfl, rfl, a, ns, _, rfl, S03.seq ha, by omega, by omega, fun H4 p2 S4 hp2 q4 => ?_⟩
      have hB4 := hB.same S4
      refine ⟨3, rfl, by decide, by decide, ?_⟩
      refine for_it (walk_range (lo := 0) (n := (3 : Int).toNat)) (fun j σ H' => ∃ u5, σ = [some (.ref a), some (.int (0 + (i : Nat) * 2)), some (.ref b), some (.ref l), some (.ref p2), u5] ∧ But p2 H4 H' ∧ PoolB H' p2) ⟨_, rfl, But.refl _ _, q4⟩ (fun _ _ _ _ _ => True.intro) (fun j x σ H5 H6 hj hP hy => ?_) fun σ H5 hP => ?_
      · obtain ⟨u5, rfl, b5, q5⟩ := hP
        obtain ⟨rfl, rfl⟩ := hy
        refine ⟨_, rfl, _, rfl, p2, b, r, rfl, q5, hB4.butB' q4 b5, fun H7 b7 q7 => ⟨_, rfl, iteF ?_⟩⟩
        exact ⟨_, rfl, b5.trans b7, q7⟩
      · obtain ⟨u5, rfl, b5, q5⟩ := hP
        have hB5 := hB4.butB' q4 b5
        have S05 : Same H H5 := S03.trans (but_same S4 hp2 b5)
        obtain ⟨hR, dx, tx, hx, htx⟩ := id hB5
        have r1 := hR.most
        refine ⟨_, rfl, b, dx, _, rfl, hx, b, r, rfl, hB5, _, rfl, by omega, by omega, _, _, rfl, rfl, _, rfl, ite2 (fun c => ?_) fun c => ⟨_, _, _, _, _, rfl, S05⟩⟩
        have h30 : r.length ≤ 30 := by
          have : ((r.length : Nat) : Int) < 31 := of_decide_eq_true c
          omega
        refine ⟨_, rfl, _, rfl, p2, b, r, rfl, q5, hB5, h30, fun H6 b6 q6 => ⟨_, rfl, iteF ?_⟩⟩
        exact ⟨_, _, _, _, _, rfl, S03.trans (but_same S4 hp2 (b5.trans b6))⟩
    · obtain ⟨u1, u2, u3, u4, u5, rfl, S1⟩ := hP
      exact hQ _
end
end S11

namespace S11
open PySem PySem.Spec PyProof.Rows L2 L2.Own He Sl
def d__wall : He.DefD := ⟨("_wall", none), "_wall", "_wall", defArgs s__wall, defBody s__wall, defScope s__wall, [], []⟩
def d_is_whole : He.DefD := ⟨("is_whole", none), "is_whole", "is_whole", defArgs s_is_whole, defBody s_is_whole, defScope s_is_whole, [], []⟩
def d_is_spot : He.DefD := ⟨("is_spot", none), "is_spot", "is_spot", defArgs s_is_spot, defBody s_is_spot, defScope s_is_spot, [], []⟩
def d_check_spot : He.DefD := ⟨("check_spot", none), "check_spot", "check_spot", defArgs s_check_spot, defBody s_check_spot, defScope s_check_spot, [], []⟩
def d_check_number : He.DefD := ⟨("check_number", none), "check_number", "check_number", defArgs s_check_number, defBody s_check_number, defScope s_check_number, [], []⟩
def d_are_letters : He.DefD := ⟨("are_letters", none), "are_letters", "are_letters", defArgs s_are_letters, defBody s_are_letters, defScope s_are_letters, [], []⟩
def d_is_shade : He.DefD := ⟨("is_shade", none), "is_shade", "is_shade", defArgs s_is_shade, defBody s_is_shade, defScope s_is_shade, [], []⟩
def d_is_stripe : He.DefD := ⟨("is_stripe", none), "is_stripe", "is_stripe", defArgs s_is_stripe, defBody s_is_stripe, defScope s_is_stripe, [], []⟩
def d_first_wrong : He.DefD := ⟨("first_wrong", none), "first_wrong", "first_wrong", defArgs s_first_wrong, defBody s_first_wrong, defScope s_first_wrong, [], []⟩
def d_are_threads : He.DefD := ⟨("are_threads", none), "are_threads", "are_threads", defArgs s_are_threads, defBody s_are_threads, defScope s_are_threads, [], []⟩
def d_threads_of : He.DefD := ⟨("threads_of", none), "threads_of", "threads_of", defArgs s_threads_of, defBody s_threads_of, defScope s_threads_of, [], []⟩
def d_stripes_of : He.DefD := ⟨("stripes_of", none), "stripes_of", "stripes_of", defArgs s_stripes_of, defBody s_stripes_of, defScope s_stripes_of, [], []⟩
def d_stripe_words : He.DefD := ⟨("stripe_words", none), "stripe_words", "stripe_words", defArgs s_stripe_words, defBody s_stripe_words, defScope s_stripe_words, [], []⟩
def d_is_manner : He.DefD := ⟨("is_manner", none), "is_manner", "is_manner", defArgs s_is_manner, defBody s_is_manner, defScope s_is_manner, [], []⟩
def d_laid_out : He.DefD := ⟨("laid_out", none), "laid_out", "laid_out", defArgs s_laid_out, defBody s_laid_out, defScope s_laid_out, [], []⟩
def d_begun_at : He.DefD := ⟨("begun_at", none), "begun_at", "begun_at", defArgs s_begun_at, defBody s_begun_at, defScope s_begun_at, [], []⟩
def d_told_from : He.DefD := ⟨("told_from", none), "told_from", "told_from", defArgs s_told_from, defBody s_told_from, defScope s_told_from, [], []⟩
def d_least_round : He.DefD := ⟨("least_round", none), "least_round", "least_round", defArgs s_least_round, defBody s_least_round, defScope s_least_round, [], []⟩
def d_short_round : He.DefD := ⟨("short_round", none), "short_round", "short_round", defArgs s_short_round, defBody s_short_round, defScope s_short_round, [], []⟩
def d_least_beginning : He.DefD := ⟨("least_beginning", none), "least_beginning", "least_beginning", defArgs s_least_beginning, defBody s_least_beginning, defScope s_least_beginning, [], []⟩
def d_row_of_threads : He.DefD := ⟨("row_of_threads", none), "row_of_threads", "row_of_threads", defArgs s_row_of_threads, defBody s_row_of_threads, defScope s_row_of_threads, [], []⟩
def d_shows_round : He.DefD := ⟨("shows_round", none), "shows_round", "shows_round", defArgs s_shows_round, defBody s_shows_round, defScope s_shows_round, [], []⟩
def d_can_be : He.DefD := ⟨("can_be", none), "can_be", "can_be", defArgs s_can_be, defBody s_can_be, defScope s_can_be, [.non], []⟩
def d_longest_agreement : He.DefD := ⟨("longest_agreement", none), "longest_agreement", "longest_agreement", defArgs s_longest_agreement, defBody s_longest_agreement, defScope s_longest_agreement, [], []⟩
def d_longest_mistaken : He.DefD := ⟨("longest_mistaken", none), "longest_mistaken", "longest_mistaken", defArgs s_longest_mistaken, defBody s_longest_mistaken, defScope s_longest_mistaken, [], []⟩
def d_enough : He.DefD := ⟨("enough", none), "enough", "enough", defArgs s_enough, defBody s_enough, defScope s_enough, [], []⟩
def d_fits : He.DefD := ⟨("fits", none), "fits", "fits", defArgs s_fits, defBody s_fits, defScope s_fits, [], []⟩
def d_cut : He.DefD := ⟨("cut", none), "cut", "cut", defArgs s_cut, defBody s_cut, defScope s_cut, [], []⟩
def d__law_pool : He.DefD := ⟨("_law_pool", none), "_law_pool", "_law_pool", defArgs s__law_pool, defBody s__law_pool, defScope s__law_pool, [], []⟩
def d__law_take : He.DefD := ⟨("_law_take", none), "_law_take", "_law_take", defArgs s__law_take, defBody s__law_take, defScope s__law_take, [], []⟩
def d__law_far : He.DefD := ⟨("_law_far", none), "_law_far", "_law_far", defArgs s__law_far, defBody s__law_far, defScope s__law_far, [], []⟩
def d__law_some_shades : He.DefD := ⟨("_law_some_shades", none), "_law_some_shades", "_law_some_shades", defArgs s__law_some_shades, defBody s__law_some_shades, defScope s__law_some_shades, [], []⟩
def d__law_parts : He.DefD := ⟨("_law_parts", none), "_law_parts", "_law_parts", defArgs s__law_parts, defBody s__law_parts, defScope s__law_parts, [], []⟩
def d__law_word : He.DefD := ⟨("_law_word", none), "_law_word", "_law_word", defArgs s__law_word, defBody s__law_word, defScope s__law_word, [], []⟩
def d__law_round : He.DefD := ⟨("_law_round", none), "_law_round", "_law_round", defArgs s__law_round, defBody s__law_round, defScope s__law_round, [], []⟩
def d__law_drawn : He.DefD := ⟨("_law_drawn", none), "_law_drawn", "_law_drawn", defArgs s__law_drawn, defBody s__law_drawn, defScope s__law_drawn, [], []⟩
def d__law_among : He.DefD := ⟨("_law_among", none), "_law_among", "_law_among", defArgs s__law_among, defBody s__law_among, defScope s__law_among, [], []⟩
def d__law_shown : He.DefD := ⟨("_law_shown", none), "_law_shown", "_law_shown", defArgs s__law_shown, defBody s__law_shown, defScope s__law_shown, [], []⟩
def d__law_piece_right : He.DefD := ⟨("_law_piece_right", none), "_law_piece_right", "_law_piece_right", defArgs s__law_piece_right, defBody s__law_piece_right, defScope s__law_piece_right, [], []⟩
def d__law_enough_right : He.DefD := ⟨("_law_enough_right", none), "_law_enough_right", "_law_enough_right", defArgs s__law_enough_right, defBody s__law_enough_right, defScope s__law_enough_right, [], []⟩
def d_law : He.DefD := ⟨("law", none), "law", "law", defArgs s_law, defBody s_law, defScope s_law, [], []⟩
def d_Row___init__ : He.DefD := ⟨("Row", some "__init__"), "__init__", "Row.__init__", defArgs s_Row___init__, defBody s_Row___init__, defScope s_Row___init__, [.str "run", .int (0)], []⟩
def d_Row_at : He.DefD := ⟨("Row", some "at"), "at", "Row.at", defArgs s_Row_at, defBody s_Row_at, defScope s_Row_at, [], []⟩
def d_Row_threads : He.DefD := ⟨("Row", some "threads"), "threads", "Row.threads", defArgs s_Row_threads, defBody s_Row_threads, defScope s_Row_threads, [], []⟩
def d_Row_shades : He.DefD := ⟨("Row", some "shades"), "shades", "Row.shades", defArgs s_Row_shades, defBody s_Row_shades, defScope s_Row_shades, [], []⟩
def d_Row_moved : He.DefD := ⟨("Row", some "moved"), "moved", "Row.moved", defArgs s_Row_moved, defBody s_Row_moved, defScope s_Row_moved, [], []⟩
def d_Row_turned : He.DefD := ⟨("Row", some "turned"), "turned", "Row.turned", defArgs s_Row_turned, defBody s_Row_turned, defScope s_Row_turned, [], []⟩
def d_Row_alike : He.DefD := ⟨("Row", some "alike"), "alike", "Row.alike", defArgs s_Row_alike, defBody s_Row_alike, defScope s_Row_alike, [], []⟩
def d_Row___len__ : He.DefD := ⟨("Row", some "__len__"), "__len__", "Row.__len__", defArgs s_Row___len__, defBody s_Row___len__, defScope s_Row___len__, [], []⟩
def d_Row___eq__ : He.DefD := ⟨("Row", some "__eq__"), "__eq__", "Row.__eq__", defArgs s_Row___eq__, defBody s_Row___eq__, defScope s_Row___eq__, [], []⟩
def d_Row___str__ : He.DefD := ⟨("Row", some "__str__"), "__str__", "Row.__str__", defArgs s_Row___str__, defBody s_Row___str__, defScope s_Row___str__, [], []⟩
def d_Row___repr__ : He.DefD := ⟨("Row", some "__repr__"), "__repr__", "Row.__repr__", defArgs s_Row___repr__, defBody s_Row___repr__, defScope s_Row___repr__, [], []⟩
def d_Piece___init__ : He.DefD := ⟨("Piece", some "__init__"), "__init__", "Piece.__init__", defArgs s_Piece___init__, defBody s_Piece___init__, defScope s_Piece___init__, [], []⟩
def d_Piece_threads : He.DefD := ⟨("Piece", some "threads"), "threads", "Piece.threads", defArgs s_Piece_threads, defBody s_Piece_threads, defScope s_Piece_threads, [], []⟩
def d_Piece_joined : He.DefD := ⟨("Piece", some "joined"), "joined", "Piece.joined", defArgs s_Piece_joined, defBody s_Piece_joined, defScope s_Piece_joined, [], []⟩
def d_Piece___len__ : He.DefD := ⟨("Piece", some "__len__"), "__len__", "Piece.__len__", defArgs s_Piece___len__, defBody s_Piece___len__, defScope s_Piece___len__, [], []⟩
def d_Piece___eq__ : He.DefD := ⟨("Piece", some "__eq__"), "__eq__", "Piece.__eq__", defArgs s_Piece___eq__, defBody s_Piece___eq__, defScope s_Piece___eq__, [], []⟩
def d_Piece___str__ : He.DefD := ⟨("Piece", some "__str__"), "__str__", "Piece.__str__", defArgs s_Piece___str__, defBody s_Piece___str__, defScope s_Piece___str__, [], []⟩
def d_Piece___repr__ : He.DefD := ⟨("Piece", some "__repr__"), "__repr__", "Piece.__repr__", defArgs s_Piece___repr__, defBody s_Piece___repr__, defScope s_Piece___repr__, [], []⟩
def fn : List He.DefD := [d__wall, d_is_whole, d_is_spot, d_check_spot, d_check_number, d_are_letters, d_is_shade, d_is_stripe, d_first_wrong, d_are_threads, d_threads_of, d_stripes_of, d_stripe_words, d_is_manner, d_laid_out, d_begun_at, d_told_from, d_least_round, d_short_round, d_least_beginning, d_row_of_threads, d_shows_round, d_can_be, d_longest_agreement, d_longest_mistaken, d_enough, d_fits, d_cut, d__law_pool, d__law_take, d__law_far, d__law_some_shades, d__law_parts, d__law_word, d__law_round, d__law_drawn, d__law_among, d__law_shown, d__law_piece_right, d__law_enough_right, d_law, d_Row___init__, d_Row_at, d_Row_threads, d_Row_shades, d_Row_moved, d_Row_turned, d_Row_alike, d_Row___len__, d_Row___eq__, d_Row___str__, d_Row___repr__, d_Piece___init__, d_Piece_threads, d_Piece_joined, d_Piece___len__, d_Piece___eq__, d_Piece___str__, d_Piece___repr__]
def fa : List He.Fa := [.free "len", .free "isinstance", .free "all", .free "any", .free "tuple", .free "range", .free "enumerate", .free "sum", .free "abs", .free "divmod", .free "max", .free "min", .free "list", .free "str", .free "int", .free "bool", .free "repr", .free "sorted", .free "set", .free "zip", .free "dict", .free "reversed", .free "ValueError", .free "IndexError", .free "KeyError", .free "ZeroDivisionError", .free "LookupError", .int "BIG" (1000000000000000000000000000000), .int "MOST_THREADS" (240), .int "MOST_LETTERS" (3), .glo "StripeError", .glo "NoStripes", .glo "NoThreads", .glo "NoManner", .glo "TooLong", .glo "NoNumber", .glo "SpotError", .glo "NoSpot", .glo "NoCut", .glo "Row", .glo "Piece", .glo "_wall", .glo "is_whole", .glo "is_spot", .glo "check_spot", .glo "check_number", .glo "are_letters", .glo "is_shade", .glo "is_stripe", .glo "first_wrong", .glo "are_threads", .glo "threads_of", .glo "stripes_of", .glo "stripe_words", .glo "is_manner", .glo "laid_out", .glo "begun_at", .glo "told_from", .glo "least_round", .glo "short_round", .glo "least_beginning", .glo "row_of_threads", .glo "shows_round", .glo "can_be", .glo "longest_agreement", .glo "longest_mistaken", .glo "enough", .glo "fits", .glo "cut", .glo "_law_pool", .glo "_law_take", .glo "_law_far", .glo "_law_some_shades", .glo "_law_parts", .glo "_law_word", .glo "_law_round", .glo "_law_drawn", .glo "_law_among", .glo "_law_shown", .glo "_law_piece_right", .glo "_law_enough_right", .glo "law", .glo "MANNERS", .cls "Row", .mkr "Row", .noat "Row" "one_round", .meth "Row" "__init__", .meth "Row" "at", .meth "Row" "threads", .meth "Row" "shades", .meth "Row" "moved", .meth "Row" "turned", .meth "Row" "alike", .meth "Row" "__len__", .meth "Row" "__eq__", .meth "Row" "__str__", .meth "Row" "__repr__", .cls "Piece", .mkr "Piece", .noat "Piece" "held", .meth "Piece" "__init__", .meth "Piece" "threads", .meth "Piece" "joined", .meth "Piece" "__len__", .meth "Piece" "__eq__", .meth "Piece" "__str__", .meth "Piece" "__repr__", .exc "NoThreads", .exm "NoThreads" "StripeError" true]
def excB (K : PySem.W.Frag) (D : Addr) : Bool := eqO (PySem.W.findIn K (.ref D) "__getattribute__") (some (some (.builtin "BaseException.__getattribute__"))) && (eqO (PySem.W.findIn K (.ref D) "__getattr__") (some none) && (decide (PySem.W.subIn K (.ref D) (.type "BaseException") = some true) && (PySem.W.hasDictIn K D && (eqO (PySem.W.findIn K (.ref D) "__class__") (some (some (.builtin "object.__class__"))) && (eqO (PySem.W.specialIn K (.builtin "object.__class__") "__get__") (some (some (.builtin "getset_descriptor.__get__"))) && (decide (PySem.W.takesIn K (.builtin "object.__class__") = some true) && decide (PySem.W.mroIn K D (.type "object") = some true)))))))
theorem excB_ok {K : PySem.W.Frag} {D : Addr} (h : excB K D = true) : ExcC K D := by
  obtain ⟨h1, h⟩ := ba h
  obtain ⟨h2, h⟩ := ba h
  obtain ⟨h3, h⟩ := ba h
  obtain ⟨h4, h⟩ := ba h
  obtain ⟨h5, h⟩ := ba h
  obtain ⟨h6, h⟩ := ba h
  obtain ⟨h7, h8⟩ := ba h
  exact ⟨eqO_ok h1, eqO_ok h2, of_decide_eq_true h3, h4, eqO_ok h5, eqO_ok h6, of_decide_eq_true h7, of_decide_eq_true h8⟩
def kitR (K : PySem.W.Frag) (c : Str) (l : List (Str × Bool)) : Bool := l.all fun p => decide (PySem.W.kitOne K (.ref (ga K c)) (.ref (ga K p.1)) = some p.2)
def kitT (K : PySem.W.Frag) (c : Str) (l : List (String × Bool)) : Bool := l.all fun p => decide (PySem.W.kitOne K (.ref (ga K c)) (.type p.1) = some p.2)
theorem kitR_ok {K : PySem.W.Frag} {c : Str} {l : List (Str × Bool)} (h : kitR K c l = true) (i : Nat) {p : Str × Bool} (e : l[i]? = some p) : PySem.W.kitOne K (.ref (ga K c)) (.ref (ga K p.1)) = some p.2 := of_decide_eq_true (List.all_eq_true.mp h p (List.mem_of_getElem? e))
theorem kitT_ok {K : PySem.W.Frag} {c : Str} {l : List (String × Bool)} (h : kitT K c l = true) (i : Nat) {p : String × Bool} (e : l[i]? = some p) : PySem.W.kitOne K (.ref (ga K c)) (.type p.1) = some p.2 := of_decide_eq_true (List.all_eq_true.mp h p (List.mem_of_getElem? e))
def kr_NoThreads : List (Str × Bool) := [("StripeError", true), ("NoStripes", false), ("NoThreads", true), ("NoManner", false), ("TooLong", false), ("NoNumber", false), ("SpotError", false), ("NoSpot", false), ("NoCut", false), ("Row", false), ("Piece", false)]
def kt_NoThreads : List (String × Bool) := [("ValueError", true), ("IndexError", false), ("KeyError", false), ("ZeroDivisionError", false), ("LookupError", false)]
def ex_NoThreads (K : PySem.W.Frag) : Bool := excB K (ga K "NoThreads") && (kitR K "NoThreads" kr_NoThreads && kitT K "NoThreads" kt_NoThreads)
def ec_Row (K : PySem.W.Frag) : Bool := eqO (PySem.W.findIn K (.ref (ga K "Row")) "__class__") (some (some (.builtin "object.__class__"))) && (eqO (PySem.W.specialIn K (.builtin "object.__class__") "__get__") (some (some (.builtin "getset_descriptor.__get__"))) && (decide (PySem.W.takesIn K (.builtin "object.__class__") = some true) && (decide (PySem.W.mroIn K (ga K "Row") (.type "object") = some true) && eqO (PySem.W.findIn K (.ref (ga K "Row")) "__ne__") (some (some (.builtin "object.__ne__"))))))
def ec_Piece (K : PySem.W.Frag) : Bool := eqO (PySem.W.findIn K (.ref (ga K "Piece")) "__class__") (some (some (.builtin "object.__class__"))) && (eqO (PySem.W.specialIn K (.builtin "object.__class__") "__get__") (some (some (.builtin "getset_descriptor.__get__"))) && (decide (PySem.W.takesIn K (.builtin "object.__class__") = some true) && (decide (PySem.W.mroIn K (ga K "Piece") (.type "object") = some true) && eqO (PySem.W.findIn K (.ref (ga K "Piece")) "__ne__") (some (some (.builtin "object.__ne__"))))))
def et_MANNERS : List He.Dv := [.str "run", .str "pivot", .str "fold", .str "left", .str "right"]
def ex (K : PySem.W.Frag) : Bool := (ex_NoThreads K && (ec_Piece K && (ec_Row K && (He.tupB K "MANNERS" et_MANNERS && true))))
abbrev R : PySem.W.OpenRow := PySem.W.OpenLaw.row PySem.Challenge.rw_stripelay_k27_whole_seen_in_part
abbrev hk : PySem.W.Hook := He.hookX 5 fa fn [] [] ex
def ob (s : PySem.W.SharedT) : He.AlX := He.obsX 5 fa fn [] [] ex (HandSHeadRun.getT s)
theorem ob_eq (s : PySem.W.SharedT) : ob s = hk.obs s.abs := He.obsX_eq (HandSHeadRun.getT_eq s)
def nm0 : List PySem.Str := ["_wall", "StripeError", "NoStripes", "NoThreads", "NoManner", "TooLong", "NoNumber", "SpotError", "NoSpot", "NoCut", "BIG", "is_whole", "is_spot", "check_spot", "check_number", "MOST_THREADS", "MOST_LETTERS", "are_letters", "is_shade", "is_stripe", "first_wrong", "are_threads", "threads_of", "stripes_of", "stripe_words", "MANNERS", "is_manner", "laid_out", "begun_at", "told_from"]
def nm1 : List PySem.Str := ["least_round", "short_round", "least_beginning", "Row", "row_of_threads", "shows_round", "can_be", "longest_agreement", "longest_mistaken", "enough", "fits", "Piece", "cut", "_law_pool", "_law_take", "_law_far", "_law_some_shades", "_law_parts", "_law_word", "_law_round", "_law_drawn", "_law_among", "_law_shown", "_law_piece_right", "_law_enough_right"]
def names : List PySem.Str := nm0 ++ nm1
theorem run (w : World) : HandSHeadRun.RunEq R (PySem.W.view R.prog [63]) hk ob 20000 names w := by
  intro os
  kernel_rfl
theorem txt {K : PySem.W.Frag} {h : Heap} {mg : Str → Option Value} {w : World} (X : K.In h) (G : h.Ns mainGlobals mg) (c : He.SaysX fa fn [] [] ex w h K) : Txt K mg := by
  have cd := c.t.d
  have cx := c.more
  obtain ⟨e_NoThreads, cx⟩ := ba cx
  obtain ⟨e1_NoThreads, e2_NoThreads⟩ := ba e_NoThreads
  obtain ⟨e2_NoThreads, e3_NoThreads⟩ := ba e2_NoThreads
  obtain ⟨q_Piece, cx⟩ := ba cx
  obtain ⟨q1_Piece, q_Piece⟩ := ba q_Piece
  obtain ⟨q2_Piece, q_Piece⟩ := ba q_Piece
  obtain ⟨q3_Piece, q_Piece⟩ := ba q_Piece
  obtain ⟨q4_Piece, q5_Piece⟩ := ba q_Piece
  obtain ⟨q_Row, cx⟩ := ba cx
  obtain ⟨q1_Row, q_Row⟩ := ba q_Row
  obtain ⟨q2_Row, q_Row⟩ := ba q_Row
  obtain ⟨q3_Row, q_Row⟩ := ba q_Row
  obtain ⟨q4_Row, q5_Row⟩ := ba q_Row
  obtain ⟨t_MANNERS, cx⟩ := ba cx
  exact {
    ca_Row := eqO_ok q1_Row
    cg_Row := eqO_ok q2_Row
    ct_Row := of_decide_eq_true q3_Row
    cm_Row := of_decide_eq_true q4_Row
    ne_Row := eqO_ok q5_Row
    ca_Piece := eqO_ok q1_Piece
    cg_Piece := eqO_ok q2_Piece
    ct_Piece := of_decide_eq_true q3_Piece
    cm_Piece := of_decide_eq_true q4_Piece
    ne_Piece := eqO_ok q5_Piece
    t_MANNERS := fun H => He.tupB_ok t_MANNERS H
    f_len := He.free_ok X G (cd.fact 0 (f := .free "len") rfl)
    f_isinstance := He.free_ok X G (cd.fact 1 (f := .free "isinstance") rfl)
    f_all := He.free_ok X G (cd.fact 2 (f := .free "all") rfl)
    f_any := He.free_ok X G (cd.fact 3 (f := .free "any") rfl)
    f_tuple := He.free_ok X G (cd.fact 4 (f := .free "tuple") rfl)
    f_range := He.free_ok X G (cd.fact 5 (f := .free "range") rfl)
    f_enumerate := He.free_ok X G (cd.fact 6 (f := .free "enumerate") rfl)
    f_sum := He.free_ok X G (cd.fact 7 (f := .free "sum") rfl)
    f_abs := He.free_ok X G (cd.fact 8 (f := .free "abs") rfl)
    f_divmod := He.free_ok X G (cd.fact 9 (f := .free "divmod") rfl)
    f_max := He.free_ok X G (cd.fact 10 (f := .free "max") rfl)
    f_min := He.free_ok X G (cd.fact 11 (f := .free "min") rfl)
    f_list := He.free_ok X G (cd.fact 12 (f := .free "list") rfl)
    f_str := He.free_ok X G (cd.fact 13 (f := .free "str") rfl)
    f_int := He.free_ok X G (cd.fact 14 (f := .free "int") rfl)
    f_bool := He.free_ok X G (cd.fact 15 (f := .free "bool") rfl)
    f_repr := He.free_ok X G (cd.fact 16 (f := .free "repr") rfl)
    f_sorted := He.free_ok X G (cd.fact 17 (f := .free "sorted") rfl)
    f_set := He.free_ok X G (cd.fact 18 (f := .free "set") rfl)
    f_zip := He.free_ok X G (cd.fact 19 (f := .free "zip") rfl)
    f_dict := He.free_ok X G (cd.fact 20 (f := .free "dict") rfl)
    f_reversed := He.free_ok X G (cd.fact 21 (f := .free "reversed") rfl)
    f_ValueError := He.free_ok X G (cd.fact 22 (f := .free "ValueError") rfl)
    f_IndexError := He.free_ok X G (cd.fact 23 (f := .free "IndexError") rfl)
    f_KeyError := He.free_ok X G (cd.fact 24 (f := .free "KeyError") rfl)
    f_ZeroDivisionError := He.free_ok X G (cd.fact 25 (f := .free "ZeroDivisionError") rfl)
    f_LookupError := He.free_ok X G (cd.fact 26 (f := .free "LookupError") rfl)
    m_BIG := He.int_ok X G (cd.fact 27 (f := .int "BIG" (1000000000000000000000000000000)) rfl)
    m_MOST_THREADS := He.int_ok X G (cd.fact 28 (f := .int "MOST_THREADS" (240)) rfl)
    m_MOST_LETTERS := He.int_ok X G (cd.fact 29 (f := .int "MOST_LETTERS" (3)) rfl)
    c_StripeError := He.glo_ok X G (cd.fact 30 (f := .glo "StripeError") rfl)
    c_NoStripes := He.glo_ok X G (cd.fact 31 (f := .glo "NoStripes") rfl)
    c_NoThreads := He.glo_ok X G (cd.fact 32 (f := .glo "NoThreads") rfl)
    c_NoManner := He.glo_ok X G (cd.fact 33 (f := .glo "NoManner") rfl)
    c_TooLong := He.glo_ok X G (cd.fact 34 (f := .glo "TooLong") rfl)
    c_NoNumber := He.glo_ok X G (cd.fact 35 (f := .glo "NoNumber") rfl)
    c_SpotError := He.glo_ok X G (cd.fact 36 (f := .glo "SpotError") rfl)
    c_NoSpot := He.glo_ok X G (cd.fact 37 (f := .glo "NoSpot") rfl)
    c_NoCut := He.glo_ok X G (cd.fact 38 (f := .glo "NoCut") rfl)
    c_Row := He.glo_ok X G (cd.fact 39 (f := .glo "Row") rfl)
    c_Piece := He.glo_ok X G (cd.fact 40 (f := .glo "Piece") rfl)
    g__wall := He.glo_ok X G (cd.fact 41 (f := .glo "_wall") rfl)
    g_is_whole := He.glo_ok X G (cd.fact 42 (f := .glo "is_whole") rfl)
    g_is_spot := He.glo_ok X G (cd.fact 43 (f := .glo "is_spot") rfl)
    g_check_spot := He.glo_ok X G (cd.fact 44 (f := .glo "check_spot") rfl)
    g_check_number := He.glo_ok X G (cd.fact 45 (f := .glo "check_number") rfl)
    g_are_letters := He.glo_ok X G (cd.fact 46 (f := .glo "are_letters") rfl)
    g_is_shade := He.glo_ok X G (cd.fact 47 (f := .glo "is_shade") rfl)
    g_is_stripe := He.glo_ok X G (cd.fact 48 (f := .glo "is_stripe") rfl)
    g_first_wrong := He.glo_ok X G (cd.fact 49 (f := .glo "first_wrong") rfl)
    g_are_threads := He.glo_ok X G (cd.fact 50 (f := .glo "are_threads") rfl)
    g_threads_of := He.glo_ok X G (cd.fact 51 (f := .glo "threads_of") rfl)
    g_stripes_of := He.glo_ok X G (cd.fact 52 (f := .glo "stripes_of") rfl)
    g_stripe_words := He.glo_ok X G (cd.fact 53 (f := .glo "stripe_words") rfl)
    g_is_manner := He.glo_ok X G (cd.fact 54 (f := .glo "is_manner") rfl)
    g_laid_out := He.glo_ok X G (cd.fact 55 (f := .glo "laid_out") rfl)
    g_begun_at := He.glo_ok X G (cd.fact 56 (f := .glo "begun_at") rfl)
    g_told_from := He.glo_ok X G (cd.fact 57 (f := .glo "told_from") rfl)
    g_least_round := He.glo_ok X G (cd.fact 58 (f := .glo "least_round") rfl)
    g_short_round := He.glo_ok X G (cd.fact 59 (f := .glo "short_round") rfl)
    g_least_beginning := He.glo_ok X G (cd.fact 60 (f := .glo "least_beginning") rfl)
    g_row_of_threads := He.glo_ok X G (cd.fact 61 (f := .glo "row_of_threads") rfl)
    g_shows_round := He.glo_ok X G (cd.fact 62 (f := .glo "shows_round") rfl)
    g_can_be := He.glo_ok X G (cd.fact 63 (f := .glo "can_be") rfl)
    g_longest_agreement := He.glo_ok X G (cd.fact 64 (f := .glo "longest_agreement") rfl)
    g_longest_mistaken := He.glo_ok X G (cd.fact 65 (f := .glo "longest_mistaken") rfl)
    g_enough := He.glo_ok X G (cd.fact 66 (f := .glo "enough") rfl)
    g_fits := He.glo_ok X G (cd.fact 67 (f := .glo "fits") rfl)
    g_cut := He.glo_ok X G (cd.fact 68 (f := .glo "cut") rfl)
    g__law_pool := He.glo_ok X G (cd.fact 69 (f := .glo "_law_pool") rfl)
    g__law_take := He.glo_ok X G (cd.fact 70 (f := .glo "_law_take") rfl)
    g__law_far := He.glo_ok X G (cd.fact 71 (f := .glo "_law_far") rfl)
    g__law_some_shades := He.glo_ok X G (cd.fact 72 (f := .glo "_law_some_shades") rfl)
    g__law_parts := He.glo_ok X G (cd.fact 73 (f := .glo "_law_parts") rfl)
    g__law_word := He.glo_ok X G (cd.fact 74 (f := .glo "_law_word") rfl)
    g__law_round := He.glo_ok X G (cd.fact 75 (f := .glo "_law_round") rfl)
    g__law_drawn := He.glo_ok X G (cd.fact 76 (f := .glo "_law_drawn") rfl)
    g__law_among := He.glo_ok X G (cd.fact 77 (f := .glo "_law_among") rfl)
    g__law_shown := He.glo_ok X G (cd.fact 78 (f := .glo "_law_shown") rfl)
    g__law_piece_right := He.glo_ok X G (cd.fact 79 (f := .glo "_law_piece_right") rfl)
    g__law_enough_right := He.glo_ok X G (cd.fact 80 (f := .glo "_law_enough_right") rfl)
    g_law := He.glo_ok X G (cd.fact 81 (f := .glo "law") rfl)
    c_MANNERS := He.glo_ok X G (cd.fact 82 (f := .glo "MANNERS") rfl)
    cl_Row := He.cls_ok (cd.fact 83 (f := .cls "Row") rfl)
    mk_Row := He.mkr_ok (cd.fact 84 (f := .mkr "Row") rfl)
    nf_Row_one_round := He.noat_ok (cd.fact 85 (f := .noat "Row" "one_round") rfl)
    M_Row___init__ := He.meth_ok (cd.fact 86 (f := .meth "Row" "__init__") rfl)
    M_Row_at := He.meth_ok (cd.fact 87 (f := .meth "Row" "at") rfl)
    M_Row_threads := He.meth_ok (cd.fact 88 (f := .meth "Row" "threads") rfl)
    M_Row_shades := He.meth_ok (cd.fact 89 (f := .meth "Row" "shades") rfl)
    M_Row_moved := He.meth_ok (cd.fact 90 (f := .meth "Row" "moved") rfl)
    M_Row_turned := He.meth_ok (cd.fact 91 (f := .meth "Row" "turned") rfl)
    M_Row_alike := He.meth_ok (cd.fact 92 (f := .meth "Row" "alike") rfl)
    M_Row___len__ := He.meth_ok (cd.fact 93 (f := .meth "Row" "__len__") rfl)
    M_Row___eq__ := He.meth_ok (cd.fact 94 (f := .meth "Row" "__eq__") rfl)
    M_Row___str__ := He.meth_ok (cd.fact 95 (f := .meth "Row" "__str__") rfl)
    M_Row___repr__ := He.meth_ok (cd.fact 96 (f := .meth "Row" "__repr__") rfl)
    cl_Piece := He.cls_ok (cd.fact 97 (f := .cls "Piece") rfl)
    mk_Piece := He.mkr_ok (cd.fact 98 (f := .mkr "Piece") rfl)
    nf_Piece_held := He.noat_ok (cd.fact 99 (f := .noat "Piece" "held") rfl)
    M_Piece___init__ := He.meth_ok (cd.fact 100 (f := .meth "Piece" "__init__") rfl)
    M_Piece_threads := He.meth_ok (cd.fact 101 (f := .meth "Piece" "threads") rfl)
    M_Piece_joined := He.meth_ok (cd.fact 102 (f := .meth "Piece" "joined") rfl)
    M_Piece___len__ := He.meth_ok (cd.fact 103 (f := .meth "Piece" "__len__") rfl)
    M_Piece___eq__ := He.meth_ok (cd.fact 104 (f := .meth "Piece" "__eq__") rfl)
    M_Piece___str__ := He.meth_ok (cd.fact 105 (f := .meth "Piece" "__str__") rfl)
    M_Piece___repr__ := He.meth_ok (cd.fact 106 (f := .meth "Piece" "__repr__") rfl)
    xc_NoThreads := He.exc_ok (cd.fact 107 (f := .exc "NoThreads") rfl)
    xm_NoThreads := He.exm_ok (cd.fact 108 (f := .exm "NoThreads" "StripeError" true) rfl)
    F__wall := by
      obtain ⟨fd, F⟩ := cd.def_ 0 (d := d__wall) rfl
      exact fdAt_eq F
    F_is_whole := by
      obtain ⟨fd, F⟩ := cd.def_ 1 (d := d_is_whole) rfl
      exact fdAt_eq F
    F_is_spot := by
      obtain ⟨fd, F⟩ := cd.def_ 2 (d := d_is_spot) rfl
      exact fdAt_eq F
    F_check_spot := by
      obtain ⟨fd, F⟩ := cd.def_ 3 (d := d_check_spot) rfl
      exact fdAt_eq F
    F_check_number := by
      obtain ⟨fd, F⟩ := cd.def_ 4 (d := d_check_number) rfl
      exact fdAt_eq F
    F_are_letters := by
      obtain ⟨fd, F⟩ := cd.def_ 5 (d := d_are_letters) rfl
      exact fdAt_eq F
    F_is_shade := by
      obtain ⟨fd, F⟩ := cd.def_ 6 (d := d_is_shade) rfl
      exact fdAt_eq F
    F_is_stripe := by
      obtain ⟨fd, F⟩ := cd.def_ 7 (d := d_is_stripe) rfl
      exact fdAt_eq F
    F_first_wrong := by
      obtain ⟨fd, F⟩ := cd.def_ 8 (d := d_first_wrong) rfl
      exact fdAt_eq F
    F_are_threads := by
      obtain ⟨fd, F⟩ := cd.def_ 9 (d := d_are_threads) rfl
      exact fdAt_eq F
    F_threads_of := by
      obtain ⟨fd, F⟩ := cd.def_ 10 (d := d_threads_of) rfl
      exact fdAt_eq F
    F_stripes_of := by
      obtain ⟨fd, F⟩ := cd.def_ 11 (d := d_stripes_of) rfl
      exact fdAt_eq F
    F_stripe_words := by
      obtain ⟨fd, F⟩ := cd.def_ 12 (d := d_stripe_words) rfl
      exact fdAt_eq F
    F_is_manner := by
      obtain ⟨fd, F⟩ := cd.def_ 13 (d := d_is_manner) rfl
      exact fdAt_eq F
    F_laid_out := by
      obtain ⟨fd, F⟩ := cd.def_ 14 (d := d_laid_out) rfl
      exact fdAt_eq F
    F_begun_at := by
      obtain ⟨fd, F⟩ := cd.def_ 15 (d := d_begun_at) rfl
      exact fdAt_eq F
    F_told_from := by
      obtain ⟨fd, F⟩ := cd.def_ 16 (d := d_told_from) rfl
      exact fdAt_eq F
    F_least_round := by
      obtain ⟨fd, F⟩ := cd.def_ 17 (d := d_least_round) rfl
      exact fdAt_eq F
    F_short_round := by
      obtain ⟨fd, F⟩ := cd.def_ 18 (d := d_short_round) rfl
      exact fdAt_eq F
    F_least_beginning := by
      obtain ⟨fd, F⟩ := cd.def_ 19 (d := d_least_beginning) rfl
      exact fdAt_eq F
    F_row_of_threads := by
      obtain ⟨fd, F⟩ := cd.def_ 20 (d := d_row_of_threads) rfl
      exact fdAt_eq F
    F_shows_round := by
      obtain ⟨fd, F⟩ := cd.def_ 21 (d := d_shows_round) rfl
      exact fdAt_eq F
    F_can_be := by
      obtain ⟨fd, F⟩ := cd.def_ 22 (d := d_can_be) rfl
      exact fdAt_eq F
    F_longest_agreement := by
      obtain ⟨fd, F⟩ := cd.def_ 23 (d := d_longest_agreement) rfl
      exact fdAt_eq F
    F_longest_mistaken := by
      obtain ⟨fd, F⟩ := cd.def_ 24 (d := d_longest_mistaken) rfl
      exact fdAt_eq F
    F_enough := by
      obtain ⟨fd, F⟩ := cd.def_ 25 (d := d_enough) rfl
      exact fdAt_eq F
    F_fits := by
      obtain ⟨fd, F⟩ := cd.def_ 26 (d := d_fits) rfl
      exact fdAt_eq F
    F_cut := by
      obtain ⟨fd, F⟩ := cd.def_ 27 (d := d_cut) rfl
      exact fdAt_eq F
    F__law_pool := by
      obtain ⟨fd, F⟩ := cd.def_ 28 (d := d__law_pool) rfl
      exact fdAt_eq F
    F__law_take := by
      obtain ⟨fd, F⟩ := cd.def_ 29 (d := d__law_take) rfl
      exact fdAt_eq F
    F__law_far := by
      obtain ⟨fd, F⟩ := cd.def_ 30 (d := d__law_far) rfl
      exact fdAt_eq F
    F__law_some_shades := by
      obtain ⟨fd, F⟩ := cd.def_ 31 (d := d__law_some_shades) rfl
      exact fdAt_eq F
    F__law_parts := by
      obtain ⟨fd, F⟩ := cd.def_ 32 (d := d__law_parts) rfl
      exact fdAt_eq F
    F__law_word := by
      obtain ⟨fd, F⟩ := cd.def_ 33 (d := d__law_word) rfl
      exact fdAt_eq F
    F__law_round := by
      obtain ⟨fd, F⟩ := cd.def_ 34 (d := d__law_round) rfl
      exact fdAt_eq F
    F__law_drawn := by
      obtain ⟨fd, F⟩ := cd.def_ 35 (d := d__law_drawn) rfl
      exact fdAt_eq F
    F__law_among := by
      obtain ⟨fd, F⟩ := cd.def_ 36 (d := d__law_among) rfl
      exact fdAt_eq F
    F__law_shown := by
      obtain ⟨fd, F⟩ := cd.def_ 37 (d := d__law_shown) rfl
      exact fdAt_eq F
    F__law_piece_right := by
      obtain ⟨fd, F⟩ := cd.def_ 38 (d := d__law_piece_right) rfl
      exact fdAt_eq F
    F__law_enough_right := by
      obtain ⟨fd, F⟩ := cd.def_ 39 (d := d__law_enough_right) rfl
      exact fdAt_eq F
    F_law := by
      obtain ⟨fd, F⟩ := cd.def_ 40 (d := d_law) rfl
      exact fdAt_eq F
    F_Row___init__ := by
      obtain ⟨fd, F⟩ := cd.def_ 41 (d := d_Row___init__) rfl
      exact fdAt_eq F
    F_Row_at := by
      obtain ⟨fd, F⟩ := cd.def_ 42 (d := d_Row_at) rfl
      exact fdAt_eq F
    F_Row_threads := by
      obtain ⟨fd, F⟩ := cd.def_ 43 (d := d_Row_threads) rfl
      exact fdAt_eq F
    F_Row_shades := by
      obtain ⟨fd, F⟩ := cd.def_ 44 (d := d_Row_shades) rfl
      exact fdAt_eq F
    F_Row_moved := by
      obtain ⟨fd, F⟩ := cd.def_ 45 (d := d_Row_moved) rfl
      exact fdAt_eq F
    F_Row_turned := by
      obtain ⟨fd, F⟩ := cd.def_ 46 (d := d_Row_turned) rfl
      exact fdAt_eq F
    F_Row_alike := by
      obtain ⟨fd, F⟩ := cd.def_ 47 (d := d_Row_alike) rfl
      exact fdAt_eq F
    F_Row___len__ := by
      obtain ⟨fd, F⟩ := cd.def_ 48 (d := d_Row___len__) rfl
      exact fdAt_eq F
    F_Row___eq__ := by
      obtain ⟨fd, F⟩ := cd.def_ 49 (d := d_Row___eq__) rfl
      exact fdAt_eq F
    F_Row___str__ := by
      obtain ⟨fd, F⟩ := cd.def_ 50 (d := d_Row___str__) rfl
      exact fdAt_eq F
    F_Row___repr__ := by
      obtain ⟨fd, F⟩ := cd.def_ 51 (d := d_Row___repr__) rfl
      exact fdAt_eq F
    F_Piece___init__ := by
      obtain ⟨fd, F⟩ := cd.def_ 52 (d := d_Piece___init__) rfl
      exact fdAt_eq F
    F_Piece_threads := by
      obtain ⟨fd, F⟩ := cd.def_ 53 (d := d_Piece_threads) rfl
      exact fdAt_eq F
    F_Piece_joined := by
      obtain ⟨fd, F⟩ := cd.def_ 54 (d := d_Piece_joined) rfl
      exact fdAt_eq F
    F_Piece___len__ := by
      obtain ⟨fd, F⟩ := cd.def_ 55 (d := d_Piece___len__) rfl
      exact fdAt_eq F
    F_Piece___eq__ := by
      obtain ⟨fd, F⟩ := cd.def_ 56 (d := d_Piece___eq__) rfl
      exact fdAt_eq F
    F_Piece___str__ := by
      obtain ⟨fd, F⟩ := cd.def_ 57 (d := d_Piece___str__) rfl
      exact fdAt_eq F
    F_Piece___repr__ := by
      obtain ⟨fd, F⟩ := cd.def_ 58 (d := d_Piece___repr__) rfl
      exact fdAt_eq F
    xe_NoThreads := excB_ok e1_NoThreads
    xi_NoThreads_StripeError := kitR_ok e2_NoThreads 0 (p := ("StripeError", true)) rfl
    xi_NoThreads_NoStripes := kitR_ok e2_NoThreads 1 (p := ("NoStripes", false)) rfl
    xi_NoThreads_NoThreads := kitR_ok e2_NoThreads 2 (p := ("NoThreads", true)) rfl
    xi_NoThreads_NoManner := kitR_ok e2_NoThreads 3 (p := ("NoManner", false)) rfl
    xi_NoThreads_TooLong := kitR_ok e2_NoThreads 4 (p := ("TooLong", false)) rfl
    xi_NoThreads_NoNumber := kitR_ok e2_NoThreads 5 (p := ("NoNumber", false)) rfl
    xi_NoThreads_SpotError := kitR_ok e2_NoThreads 6 (p := ("SpotError", false)) rfl
    xi_NoThreads_NoSpot := kitR_ok e2_NoThreads 7 (p := ("NoSpot", false)) rfl
    xi_NoThreads_NoCut := kitR_ok e2_NoThreads 8 (p := ("NoCut", false)) rfl
    xi_NoThreads_Row := kitR_ok e2_NoThreads 9 (p := ("Row", false)) rfl
    xi_NoThreads_Piece := kitR_ok e2_NoThreads 10 (p := ("Piece", false)) rfl
    xi_NoThreads_ValueError := kitT_ok e3_NoThreads 0 (p := ("ValueError", true)) rfl
    xi_NoThreads_IndexError := kitT_ok e3_NoThreads 1 (p := ("IndexError", false)) rfl
    xi_NoThreads_KeyError := kitT_ok e3_NoThreads 2 (p := ("KeyError", false)) rfl
    xi_NoThreads_ZeroDivisionError := kitT_ok e3_NoThreads 3 (p := ("ZeroDivisionError", false)) rfl
    xi_NoThreads_LookupError := kitT_ok e3_NoThreads 4 (p := ("LookupError", false)) rfl
  }
theorem facts {P : Program} {w : World} {K : PySem.W.Frag} {h : Heap} {mg : Str → Option Value} {f : Addr} (X : K.In h) (G : h.Ns mainGlobals mg) (hfa : mg ("law" : Str) = some (.ref f)) (c : He.SaysX fa fn [] [] ex w h K) :
    ∃ fd : FuncData, (∀ (s : Shared) (v : Value), BindsTo s fd ⟨[v], []⟩ [("_law_script", v)]) ∧ ∀ base : Heap, K.In base → base.Ns mainGlobals mg → FnOk P w K mg base CX0 17 f fd ["_law_script"] (spLaw K) := by
  have T := txt X G c
  have e := hfa.symm.trans T.g_law
  cases e
  have b := FunD.bindsA (ps := ["_law_script"]) T.F_law fun _ _ _ _ _ _ us hl => match us, hl with | [_], _ => rfl
  exact ⟨_, fun s v => b s [v] rfl, fun base _ _ => ok_law T⟩
end S11
open PySem PySem.W PySem.Calls PyProof.Rows
theorem PySem.Challenge.cw_stripelay_k27_whole_seen_in_part_holds : PySem.Challenge.rw_stripelay_k27_whole_seen_in_part.Holds := by
  w_on; o_law
  refine HandSHeadRun.head_any (r := OpenLaw.row PySem.Challenge.rw_stripelay_k27_whole_seen_in_part) (q := view (OpenLaw.row PySem.Challenge.rw_stripelay_k27_whole_seen_in_part).prog [63]) (H := S11.hk) (ob := S11.ob) (M := 20000) (loose := S11.names) (d := HandSHeadRun.topDef (OpenLaw.row PySem.Challenge.rw_stripelay_k27_whole_seen_in_part).prog 63) (kwd := []) S11.ob_eq
    (by kernel_rfl) (fun s => by kernel_rfl) S11.run (by kernel_rfl) (by kernel_rfl) (by kernel_rfl) (by rfl) (by first | assumption | decide +kernel) (by decide +kernel) ⟨rfl, rfl, rfl, rfl, rfl, by decide +kernel⟩ ?hw ?hc
  case hw => w_witness2
  case hc =>
    refine L2.walk_ofE (l := PySem.Challenge.rw_stripelay_k27_whole_seen_in_part) (n := 63) (k := 17) (x := "_law_script") (CX := L2.CX0) rfl (by decide) (by kernel_rfl) ⟨rfl, by decide, by decide⟩ ?F (fun _ _ _ _ z => z)
    intro w mg fa h Y G hmg0
    obtain ⟨K, KX, c⟩ := Y
    have hmg : mg ("law" : PySem.Str) = some (.ref fa) := by
      have e : (HandSHeadRun.topDef (OpenLaw.row PySem.Challenge.rw_stripelay_k27_whole_seen_in_part).prog 63).name = ("law" : PySem.Str) := by kernel_rfl
      rw [← e]
      exact hmg0
    obtain ⟨fd, hb, hF⟩ := S11.facts (P := (PySem.Challenge.rw_stripelay_k27_whole_seen_in_part).prog) (w := w) KX G hmg c
    exact ⟨K, fd, S11.spLaw K, KX, hb, fun H a ns hl _ hS => ⟨a, ns, rfl, hS, fun _ => rfl⟩, hF⟩
