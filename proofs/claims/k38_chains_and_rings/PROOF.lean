import PyProof.Rows.All
import Wide.All
import OpenK.AllK
import Wide.FinOn
import KE.GoesEnum
import HandS.Base
import HandS.Call
import HandS.List
import HandS.Comp
import HandS.Ends
import HandS.Dict
import HandS.Iter
import HandS.Text
import HandS.Words
import HandS.WordsList
import HandS.IsInst
import HandS.Walk
import HandS.Codes
import HandS.Conv
import HandS.FStr
import HandS.Text
import HandS.Codes
import KE.KUnpack
import PyProof.RulesMatch
import PyProof.RulesMatchSeq
import PyProof.Rows.MatchSeqLen
import KE.KExcIs
import HandS.Exc
import HandS.ExcInit
import HandS.ExcField
import HandS.ExcIs
import HandS.ExcOwn
import HandS.TryOnly
import HandS.WordsExc
import HandS.Star
import HandS.Defaults
import HandS.More
import HandS.TryMany
import HandS.CallSlots
import HandS.HotCalls
import HandS.Set
import HandS.Strs
import HandS.SetFor
import HandS.TupLen
import HandS.DictComp
import KE.KDictKeyed
import HandS.SetKeys
import HandS.SetBool
import HandS.TupMul
import HandS.Zip
import HandS.SetFor
import HandS.Remove
import HandS.Star
import KE.DatumOrd
import HandS.ExcIs
import HandS.ExcOwn
import HandS.DictTup
import HandS.Conv
import HandS.ClsMeth
import HandS.TupMul
import KE.KIndexOf
import PySem.Challenge.RW_redolots_k38_chains_and_rings
set_option Elab.async false
set_option linter.all false
set_option maxRecDepth 100000
set_option maxHeartbeats 4000000
/-! enumerate over a tracked tuple or a text, zip over two texts: walks of our own -/
namespace Rv
open PySem PySem.Spec PyProof.Rows L2

/-- an iterator that stands at it: n turns, turn i hands out what out says, as long as ok holds of the tracked heap -/
structure Feed (P : Program) (w : World) (K : PySem.W.Frag) (it : Addr) (n : Nat) (ok : Hp → Prop) (out : Nat → Option V) (st : Nat → Heap → Prop) : Prop where
  cell : ∀ i h, st i h → ∃ ob, h.get? it = some ob ∧ ∀ v, ob.data ≠ .cell v
  stay : ∀ i h1 h2, st i h1 → (∀ ob, h1.get? it = some ob → h2.get? it = some ob) → st i h2
  feed : ∀ (X : Cx), X.prog = P → X.w = w → X.K = K → X.calm = true → ∀ (pins : List (Addr × Obj)) (σ : L2.St) (H : Hp) (s : Shared), Inv X pins σ H s → ok H → H it = none →
    ∃ (fp : List Addr) (Pv : Nat → Value → Prop) (Sv : Nat → Heap → Prop), Draws X.prog X.w X.A.in1 it fp n Pv Sv ∧ (∀ i h, Sv i h → st i h) ∧ (∀ i, st i s.heap → Sv i s.heap) ∧
      (∀ i u, Pv i u → ∃ x, RelV x u ∧ out i = some x) ∧ ∀ b, b ≠ it → H b = none → b ∉ fp

theorem feed_tup {P : Program} {w : World} {K : PySem.W.Frag} (it a : Addr) (xs : List V) :
    Feed P w K it xs.length (fun H => H a = some (.tup xs)) (fun i => xs[i]?) (fun i h => h.IsTupleIter it a i) where
  cell := fun i h q => by
    obtain ⟨ob, e1, e2, e3⟩ := q
    refine ⟨ob, e1, fun v z => ?_⟩
    rw [e3] at z
    cases z
  stay := fun i h1 h2 q k => by
    obtain ⟨ob, e1, e2⟩ := q
    exact ⟨ob, k ob e1, e2⟩
  feed := fun X hP hw hK hc pins σ H s I hg hn => by
    obtain ⟨its, rv, hT, _⟩ := I.tuple (SqT.of (K := X.K) hg)
    have hl : its.toArray.size = xs.length := by
      rw [List.size_toArray]
      exact rv.length.symm
    have nai : a ≠ it := ne_of_none hg hn
    have D := Draws.tuple (prog := X.prog) (w := X.w) (A := X.A.in1) (show X.A.in1.handled = none from I.ok.hd hc) it a nai its.toArray
    rw [hl] at D
    refine ⟨[it, a], _, _, D, fun _ _ q => q.1, fun _ q => ⟨q, hT⟩, fun i u q => ?_, fun b hb hbn hm => ?_⟩
    · have q2 : its[i]? = some u := by simpa using q
      have hi : i < xs.length := by
        have := (List.getElem?_eq_some_iff.mp q2).1
        rw [rv.length]
        exact this
      obtain ⟨u', e1, r1⟩ := rv.get (List.getElem?_eq_getElem hi)
      rw [q2] at e1
      cases e1
      exact ⟨xs[i], r1, List.getElem?_eq_getElem hi⟩
    · rcases List.mem_cons.mp hm with z | z
      · exact hb z
      · have z2 : b = a := by simpa using z
        rw [z2, hg] at hbn
        cases hbn

/-- index and item in a new pair at each turn -/
def Jen (n : Nat) (ok : Hp → Prop) (out : Nat → Option V) : It :=
  ⟨fun i H => i < n ∧ ok H, fun i H v H' => ∃ T x, v = .ref T ∧ H T = none ∧ H' = upd H T (.tup [.int (i : Nat), x]) ∧ out i = some x, fun i H => i = n ∧ ok H⟩
theorem walk_jen {n : Nat} {ok : Hp → Prop} {out : Nat → Option V} : Walk (Jen n ok out) n ok (YPair (fun i => some (.int (i : Nat))) out) := by
  refine ⟨fun _ _ hi q => ⟨hi, q⟩, fun _ q => ⟨rfl, q⟩, fun i H v H' _ _ y => ?_⟩
  obtain ⟨T, x, a1, a2, a3, a4⟩ := y
  exact ⟨T, .int (i : Nat), x, a1, a2, a3, rfl, a4⟩

theorem turn_jen {P : Program} {w : World} {K : PySem.W.Frag} {elts : List Expr} {kk : Nat} {tp : Pos} {e it : Addr} {n : Nat} {ok : Hp → Prop} {out : Nat → Option V} {st : Nat → Heap → Prop}
    (F : Feed P w K it n ok out st) (hne : e ≠ it) :
    Turn P w K (.Tuple elts kk tp) (Jen n ok out) [e, it] e (fun i h => (∃ old, IsEnum h e it (0 + ((i : Nat) : Int)) old) ∧ st i h) where
  mem := List.mem_cons_self ..
  obj := fun i h q b hb => by
    obtain ⟨⟨old, he⟩, hs⟩ := q
    rcases List.mem_cons.mp hb with z | z
    · subst z
      exact ⟨_, he, fun v y => nomatch y⟩
    · have z2 : b = it := by simpa using z
      subst z2
      exact F.cell i h hs
  keep := fun i h1 h2 q k => by
    obtain ⟨⟨old, he⟩, hs⟩ := q
    exact ⟨⟨old, k e (by simp) _ he⟩, F.stay i h1 h2 hs fun ob => k it (by simp) ob⟩
  item := by
    intro X hP hw hK hc i pins s σ H E I hf q hg
    subst hP hw hK
    obtain ⟨⟨old, he⟩, hs⟩ := q
    have fe := hf e (by simp)
    have fi := hf it (by simp)
    obtain ⟨fp, Pv, Sv, D, back, go, val, off⟩ := F.feed X rfl rfl rfl hc pins σ H s I hg.2 fi.1
    refine wpAny_pyNext_enum_itemC D he (go i hs) hg.1 hne (off e hne fe.1) fun u h1 tk hu ho hs1 hT hsz hk => ?_
    obtain ⟨x, rx, ox⟩ := val i u hu
    refine ⟨_, rfl, wpAny_letOwnedTupleGo_enum (s := { s with heap := h1, toks := tk + 1 }) ho fun h2 he2 sb => ?_⟩
    have hel : e < s.heap.objs.size := Heap.lt_size he
    obtain ⟨oi, eoi, _⟩ := F.cell i s.heap hs
    have hil : it < s.heap.objs.size := Heap.lt_size eoi
    have hT2 : h2.get? s.heap.objs.size = some { cls := .type "tuple", data := .seq #[.int (0 + (i : Int)) tk, u] } := (sb.2 _ (Nat.ne_of_gt hel)).trans hT
    have kept : ∀ b ob, b ∉ [e, it] → s.heap.get? b = some ob → h2.get? b = some ob := fun b ob hb z => by
      have n1 : b ≠ e := fun y => hb (by rw [y]; simp)
      have n2 : b ≠ it := fun y => hb (by rw [y]; simp)
      exact (sb.2 b n1).trans (hk b ob n1 n2 z)
    have z0 : (0 + (i : Int)) = ((i : Nat) : Int) := by omega
    have fresh : ObjOk X.prog X.w (upd H s.heap.objs.size (.tup [.int (i : Nat), x])) h2 s.heap.objs.size (.tup [.int (i : Nat), x]) :=
      ⟨Nat.le_trans (show 2 ≤ 3 by decide) (by decide), [.int (0 + (i : Int)) tk, u], .cons ⟨tk, by rw [z0]⟩ (.cons rx .nil), ⟨_, hT2, rfl, _, rfl⟩⟩
    have I2 : Inv X pins σ (upd H s.heap.objs.size (.tup [.int (i : Nat), x])) { s with heap := h2, toks := tk + 1 } :=
      I.turnedNew (ch := [e, it]) kept hf (Nat.le_refl _) fresh
    refine ⟨.ref s.heap.objs.size, _, I2, rfl, ⟨_, x, rfl, I.hok.fresh (Nat.le_refl _), rfl, ox⟩, ⟨⟨u, ?_⟩, F.stay (i + 1) h1 h2 (back _ _ hs1) fun ob y => (sb.2 it hne.symm).trans y⟩, fun b hb => ?_⟩
    · have z1 : (0 + ((i + 1 : Nat) : Int)) = 0 + (i : Int) + 1 := by omega
      rw [z1]
      exact he2
    · have hb2 : b < s.heap.objs.size := by
        rcases List.mem_cons.mp hb with z | z
        · rw [z]; exact hel
        · rw [show b = it by simpa using z]; exact hil
      rw [upd_ne (Nat.ne_of_lt hb2)]
      exact (hf b hb).1
  done := by
    intro X hP hw hK hc i pins s σ H E I hf q hg
    subst hP hw hK
    obtain ⟨⟨old, he⟩, hs⟩ := q
    obtain ⟨rfl, hok⟩ := hg
    obtain ⟨f0, f1, f2, f3, f4, f5⟩ := hf it (by simp)
    obtain ⟨fp, Pv, Sv, D, back, go, val, off⟩ := F.feed X rfl rfl rfl hc pins σ H s I hok f0
    exact wpAny_pyNext_enum_endD D he (go _ hs) fun h1 eb => ⟨rfl, I.turned (t' := s.toks) (fun b ob hb y => eb b ob hb y) f0 f1 f3 f4 f5⟩
  self := fun A i s Q E q h => by
    obtain ⟨⟨old, he⟩, _⟩ := q
    exact wpAny_pyIter_enum he h

theorem en1 {v : Value} {o : Obj} {G : Heap → Prop} (B : Begins v o G) :
    Meets (Builtin.«enumerate.__new__» ⟨[.type "enumerate", v], []⟩) (fun _ R s => G s.heap ∧
      R (.ok (.ret (.ref (s.heap.push o).objs.size)))
        { s with heap := (s.heap.push o).push { cls := .type "enumerate", data := .fields #[.none, .bool false, .ref s.heap.objs.size, rawInt 0, .none, .none] } }) :=
  .of_wp fun prog w A R s h => by
    obtain ⟨hp, g, d, tk, os⟩ := s
    obtain ⟨h1, h⟩ := h
    have hsub := sub_enumerate
    have begun : ∀ {A' : Around} {E : Value → Shared → Prop} {Q : Value → Shared → Prop}, Q (.ref hp.objs.size) ⟨hp.push o, g, d, tk, os⟩ → wpAny (model prog w) A' (pyIter v) Q E ⟨hp, g, d, tk, os⟩ :=
      fun q => B.iter prog w _ _ ⟨hp, g, d, tk, os⟩ _ h1 q
    wp_walk using begun
    refine wpAny_stack_any fun stk => wpAny_pure ?_
    split
    · rename_i c _ _ _ _ _
      cases (c == Value.type "enumerate")
      all_goals (wp_walk using begun; exact ⟨_, rfl, h⟩)
    · wp_walk using begun
      exact ⟨_, rfl, h⟩
theorem enum1 {prog : Program} {w : World} {A : Around} {E : Value → Shared → Prop} {s : Shared} {v : Value} {o : Obj} {G : Heap → Prop} {Q : Value → Shared → Prop} (B : Begins v o G) (h1 : G s.heap)
    (h : ∀ h', IsEnum h' (s.heap.objs.size + 1) s.heap.objs.size 0 .none → h'.get? s.heap.objs.size = some o → (∀ b u, s.heap.get? b = some u → h'.get? b = some u) → Q (.ref (s.heap.objs.size + 1)) { s with heap := h' }) :
    wpAny (model prog w) A (call (.type "enumerate") [v]) Q E s := by
  refine callType_new F.called_enumerate (by decide) (F.typeCall_enumerate_1 _) (F.newCall_enumerate_1 _) (fun ob => F.args_object_init_2 ob _) F.entry_enumerate_new (en1 B) ⟨h1, ?_⟩
  have sz : (s.heap.push o).objs.size = s.heap.objs.size + 1 := Heap.size_push ..
  have here := Heap.get?_push_size (s.heap.push o) (o := { cls := .type "enumerate", data := .fields #[.none, .bool false, .ref s.heap.objs.size, rawInt 0, .none, .none] }) rfl
  rw [sz] at here
  show _ ∧ _
  rw [sz]
  exact ⟨⟨_, here, rfl⟩, h _ here (Heap.get?_push_of_some _ (Heap.get?_push_size _ B.free)) fun b u y => Heap.get?_push_of_some _ (Heap.get?_push_of_some _ y)⟩

/-! zip of two texts -/
end Rv
/-! steps of a reading, one a piece; heaps; the bag of draws -/
namespace Rv
open PySem PySem.Spec PyProof.Rows L2

theorem pe_k {X : Cx} {x : Str} {v : V} {pos : Pos} (hg : Gl X x) (h : ∃ u, X.mg x = some u ∧ RelV v u) (hd : (x == ("__debug__" : Str)) = false := by decide) : PE X (.Name x pos) (tC v) := by
  obtain ⟨u, hm, r⟩ := h
  exact pe_glob hg hm r hd

/-- a def of the top: where it stands, how its arguments bind -/
structure Def (K : PySem.W.Frag) (mg : Str → Option Value) (x : Str) (st : Stmt) (ps : List Str) (f : Addr) (fd : FuncData) : Prop where
  F : Fun K x x st f fd
  b : Binds K fd ps []
  g : mg x = some (.ref f)
theorem def_mk {K : PySem.W.Frag} {h : Heap} {mg : Str → Option Value} {x : Str} {st : Stmt} {ps : List Str} {f : Addr} {oc : Value} {od an : Option Addr} {osl : Array (Option Value)} {kV doc pm cdv ct : Value} (X : K.In h) (G : h.Ns mainGlobals mg)
    (a : PySem.W.nsIn K mainGlobals x = some (some (.ref f))) (l : K.lookup f = some ⟨oc, od, .func (PySem.W.fnOf x x (defArgs st) (defBody st) (defScope st) .none kV doc pm an cdv ct), osl⟩)
    (c : PySem.W.codeIn K cdv x = true) (k : PySem.W.keepIn K (.ref f) = true)
    (hb : ∀ (kV doc pm : Value) (an : Option Addr) (cdv ct : Value) (us : List Value), us.length = ps.length → bindArgs (PySem.W.fnOf x x (defArgs st) (defBody st) (defScope st) .none kV doc pm an cdv ct) ⟨us, []⟩ = pure (ps.zip us)) : ∃ f fd, Def K mg x st ps f fd := by
  have F := fun_mk (st := st) l c k
  exact ⟨f, _, F, F.binds hb, PySem.W.mg_of X G a⟩
theorem const_mk {K : PySem.W.Frag} {h : Heap} {mg : Str → Option Value} {x : Str} {u : Value} {v : V} (X : K.In h) (G : h.Ns mainGlobals mg) (a : PySem.W.nsIn K mainGlobals x = some (some u)) (r : RelV v u) : ∃ u, mg x = some u ∧ RelV v u := ⟨u, PySem.W.mg_of X G a, r⟩

section
variable {σ : L2.St} {H : Hp} {i : Nat} {v x y : V} {ta tb te : TE} {b : Bool} {K : PySem.W.Frag} {t u c : TT} {Q : VK} {QB : Bool → Hp → Prop} {QA : List V → Hp → Prop} {D : Ends} {s1 s2 : TS} {tr : TA} {r : R2}
theorem rd_var (h : σ[i]? = some (some v)) (q : Q v H) : tVar i σ H Q := ⟨v, h, q⟩
theorem rd_c (q : Q v H) : tC v σ H Q := q
theorem rd_op (q : ta σ H fun x H1 => tb σ H1 fun y H2 => r x y H2 Q) : tOp r ta tb σ H Q := q
theorem rd_un {r : V → Hp → VK → Prop} (q : ta σ H fun x H1 => r x H1 Q) : tUn r ta σ H Q := q
theorem rd_U {g : Int → V} {a : Int} (q : Q (g a) H) : rU g (.int a) H Q := ⟨a, rfl, q⟩
theorem rd_I0 {g : Int → Int → V} {a b : Int} (q : Q (g a b) H) : rI0 g (.int a) (.int b) H Q := ⟨a, b, rfl, rfl, q⟩
theorem rd_I {C : Int → Int → Prop} {g : Int → Int → V} {a b : Int} (hc : C a b) (q : Q (g a b) H) : rI C g (.int a) (.int b) H Q := ⟨a, b, rfl, rfl, hc, q⟩
theorem rd_eq (h : scal x y = true) (q : Q (.bl (decide (x = y))) H) : rEq x y H Q := ⟨h, q⟩
theorem rd_ne (h : scal x y = true) (q : Q (.bl (!decide (x = y))) H) : rNe x y H Q := ⟨h, q⟩
theorem rd_k {P : Bool → Prop} (q : P b) : ∃ k, V.bl b = V.bl k ∧ P k := ⟨b, rfl, q⟩
theorem rd_test (q : te σ H fun x H' => ∃ k, x = .bl k ∧ QB k H') : tTest te σ H QB := q
theorem rd_B (q : te σ H fun x H' => ∃ k, x = .bl k ∧ QB k H') : tB te σ H QB := q
theorem rd_not (q : t σ H fun c H1 => QB (!c) H1) : tNot t σ H QB := q
theorem rd_notV (q : te σ H fun x H1 => ∃ c, x = .bl c ∧ Q (.bl (!c)) H1) : tNotV te σ H Q := q
theorem rd_and (q : t σ H fun c H1 => if c = true then u σ H1 QB else QB false H1) : tAnd t u σ H QB := q
theorem rd_or (q : t σ H fun c H1 => if c = true then QB true H1 else u σ H1 QB) : tOr t u σ H QB := q
theorem rd_andV (q : ta σ H fun x H1 => ∃ c, x = .bl c ∧ if c = true then tb σ H1 Q else Q (.bl false) H1) : tAndV ta tb σ H Q := q
theorem rd_if (q : t σ H fun c H1 => if c = true then ta σ H1 Q else tb σ H1 Q) : tIf t ta tb σ H Q := q
theorem rd_chain {r' : R2} {tc : TE} (q : ta σ H fun x H1 => tb σ H1 fun y H2 => r x y H2 fun z H3 => ∃ k, z = .bl k ∧ if k = true then tc σ H3 fun w H4 => r' y w H4 Q else Q (.bl false) H3) : tChain r r' ta tb tc σ H Q := q
theorem rd_seq (q : s1 { D with nx := s2 D } σ H) : tSeq s1 s2 D σ H := q
theorem rd_next (q : D.nx σ H) : tNext D σ H := q
theorem rd_asg {g : TG} (q : te σ H fun x H1 => g x σ H1 D.nx) : tAsg te g D σ H := q
theorem rd_name {R : L2.St → Hp → Prop} (q : R (σ.set i (some v)) H) : gName i v σ H R := q
theorem rd_sub {to ti : TE} {ts : TSet} {R : L2.St → Hp → Prop} (q : to σ H fun o H1 => ti σ H1 fun i H2 => ts o i v H2 fun H3 => R σ H3) : gSub to ti ts v σ H R := q
theorem rd_gcons {g : TG} {gs : TGs} {R : L2.St → Hp → Prop} {vs : List V} (q : g v σ H fun σ' H' => gs vs σ' H' R) : gCons g gs (v :: vs) σ H R := ⟨v, vs, rfl, q⟩
theorem rd_gnil {R : L2.St → Hp → Prop} (q : R σ H) : gNil [] σ H R := ⟨rfl, q⟩
theorem rd_gtup {a : Addr} {xs : List V} {n : Nat} {gs : TGs} {R : L2.St → Hp → Prop} (h : H a = some (.tup xs)) (hn : xs.length = n) (q : gs xs σ H R) : gTup K n gs (.ref a) σ H R := ⟨a, xs, rfl, SqT.of h, hn, q⟩
theorem rd_ret (q : te σ H D.rt) : tRet te D σ H := q
theorem rd_drop (q : te σ H fun _ H1 => D.nx σ H1) : tDrop te D σ H := q
theorem rd_ifS (q : t σ H fun b H1 => if b = true then s1 D σ H1 else s2 D σ H1) : tIfS t s1 s2 D σ H := q
theorem rd_nil (q : QA [] H) : tNil σ H QA := q
theorem rd_cons (q : ta σ H fun x H1 => tr σ H1 fun xs H2 => QA (x :: xs) H2) : tCons ta tr σ H QA := q
theorem rd_CB {r : List V → Hp → VK → Prop} (q : tr σ H fun vs H1 => r vs H1 Q) : tCB r tr σ H Q := q
theorem rd_call {sp : Sp} {E : XK} (q : tr σ H fun vs H1 => sp vs H1 Q E) : tCall sp [] E tr σ H Q := by
  show tr σ H fun vs H1 => sp (vs ++ []) H1 Q E
  have e : (fun vs H1 => sp (vs ++ []) H1 Q E) = fun vs H1 => sp vs H1 Q E := by
    funext vs H1
    rw [List.append_nil]
  rw [e]
  exact q
theorem rd_tup (q : tr σ H fun xs H1 => xs.length ≤ sizeLine ∧ ∀ p, H1 p = none → Q (.ref p) (upd H1 p (.tup xs))) : tTup tr σ H Q := q
theorem rd_ixL {p : Addr} {xs : List V} {a : Int} (h : SqL K H p xs) (e : atI xs a = some v) (q : Q v H) : rIxL K (.ref p) (.int a) H Q := ⟨p, xs, a, v, rfl, rfl, h, e, q⟩
theorem rd_ixT {p : Addr} {xs : List V} {a : Int} (h : H p = some (.tup xs)) (e : atI xs a = some v) (q : Q v H) : rIxT K (.ref p) (.int a) H Q := ⟨p, xs, a, v, rfl, rfl, SqT.of h, e, q⟩
theorem rd_ixS {z : Str} {a : Int} {c : Nat} (hz : z.length ≤ sizeLine) (e : atI z.cps.toList a = some c) (q : Q (.str ⟨#[c]⟩) H) : rIxS (.str z) (.int a) H Q := ⟨z, a, c, rfl, rfl, hz, e, q⟩
theorem rd_setL {p : Addr} {xs : List V} {a : Int} {j : Nat} {R : Hp → Prop} (h : H p = some (.lst xs)) (e : ixN xs.length a = some j) (q : R (upd H p (.lst (xs.set j v)))) : rSetL (.ref p) (.int a) v H R := ⟨p, xs, a, j, rfl, rfl, h, e, q⟩
end

/-! built-in calls under names of their own -/
def rLenQ (K : PySem.W.Frag) : List V → Hp → VK → Prop := fun xs H Q => ∃ p ys, xs = [.ref p] ∧ (SqL K H p ys ∨ SqT K H p ys) ∧ Q (.int ys.length) H
def rLenZ : List V → Hp → VK → Prop := fun xs H Q => ∃ z, xs = [.str z] ∧ z.length ≤ sizeLine ∧ Q (.int z.length) H
def rIntQ : List V → Hp → VK → Prop := fun xs H Q => ∃ i, xs = [.int i] ∧ Q (.int i) H
def rAbsQ : List V → Hp → VK → Prop := fun xs H Q => ∃ i, xs = [.int i] ∧ Q (.int (if i < 0 then -i else i)) H
def rStrQ : List V → Hp → VK → Prop := fun xs H Q => ∃ i, xs = [.int i] ∧ i.natAbs.log2 < 1920 ∧ Q (.str (toString i)) H
def rTupQ (K : PySem.W.Frag) : List V → Hp → VK → Prop := fun xs H Q => ∃ p ys, xs = [.ref p] ∧ SqL K H p ys ∧ ∀ l, H l = none → Q (.ref l) (upd H l (.tup ys))
def rLstQ (K : PySem.W.Frag) : List V → Hp → VK → Prop := fun xs H Q => ∃ p ys, xs = [.ref p] ∧ (SqL K H p ys ∨ SqT K H p ys) ∧ ∀ l, H l = none → Q (.ref l) (upd H l (.lst ys))
def rMinQ : List V → Hp → VK → Prop := fun xs H Q => ∃ i j, xs = [.int i, .int j] ∧ Q (.int (if j < i then j else i)) H
def rSgnQ : R2 := fun x y H Q => ∃ (c : Nat) (z : Str), x = .str ⟨#[c]⟩ ∧ y = .str z ∧ Q (.bl (decide (c ∈ z.cps.toList))) H
section
variable {X : Cx}
theorem call_lenQ : CallR X (.builtin "len") (rLenQ X.K) := call_len_seq
theorem call_lenZ : CallR X (.builtin "len") rLenZ := call_len_str
theorem call_intQ : CallR X (.type "int") rIntQ := fun pins s σ H xs us Q I r h => call_int1 pins s σ H xs us Q I r (.inl h)
theorem call_absQ : CallR X (.builtin "abs") rAbsQ := call_abs
theorem call_strQ : CallR X (.type "str") rStrQ := call_str_int
theorem call_tupQ : CallR X (.type "tuple") (rTupQ X.K) := fun pins s σ H xs us Q I r h => call_tuple_of pins s σ H xs us Q I r (by
  obtain ⟨p, ys, e, h1, h2⟩ := h
  exact ⟨p, ys, e, .inl ⟨h1, h2⟩⟩)
theorem call_lstQ : CallR X (.type "list") (rLstQ X.K) := call_list_of
theorem call_minQ (hc : X.calm = true) : CallR X (.builtin "min") rMinQ := call_min2 hc
theorem op_sgnQ : OpR X (compareOp .In) rSgnQ := op_in_sign
end
section
variable {H H1 H2 : Hp} {p a : Addr} {xs : List V} {K : PySem.W.Frag} {Q : VK} {o : HO} {A B : Prop} {b : Bool}


theorem rd_ixM {v : V} {i : Int} (h : H p = some (.lst xs)) (e : atI xs i = some v) (q : Q v H) : rIxL K (.ref p) (.int i) H Q := ⟨p, xs, i, v, rfl, rfl, SqL.of h, e, q⟩

theorem rd_lenT (h : H p = some (.tup xs)) (q : Q (.int xs.length) H) : rLenQ K [.ref p] H Q := ⟨p, xs, rfl, .inr (SqT.of h), q⟩
theorem rd_lenL (h : H p = some (.lst xs)) (q : Q (.int xs.length) H) : rLenQ K [.ref p] H Q := ⟨p, xs, rfl, .inl (SqL.of h), q⟩
theorem rd_lenZ {z : Str} (hz : z.length ≤ sizeLine) (q : Q (.int z.length) H) : rLenZ [.str z] H Q := ⟨z, rfl, hz, q⟩
theorem rd_intQ {i : Int} (q : Q (.int i) H) : rIntQ [.int i] H Q := ⟨i, rfl, q⟩
theorem rd_absQ {i : Int} (q : Q (.int (if i < 0 then -i else i)) H) : rAbsQ [.int i] H Q := ⟨i, rfl, q⟩
theorem rd_minQ {i j : Int} (q : Q (.int (if j < i then j else i)) H) : rMinQ [.int i, .int j] H Q := ⟨i, j, rfl, q⟩
theorem rd_strQ {i : Int} (h0 : 0 ≤ i) (h1 : i < 10) (q : Q (.str (toString i)) H) : rStrQ [.int i] H Q := ⟨i, rfl, Nat.lt_of_le_of_lt (Nat.log2_le_self _) (by omega), q⟩
theorem rd_sgn {c : Nat} {z : Str} (q : Q (.bl (decide (c ∈ z.cps.toList))) H) : rSgnQ (.str ⟨#[c]⟩) (.str z) H Q := ⟨c, z, rfl, rfl, q⟩
theorem rd_isiT {T : String} (h : H p = some (.tup xs)) (e : kitB "tuple" T = some b) (q : Q (.bl b) H) : rIsi K [.ref p, .ty T] H Q := ⟨_, _, _, _, b, rfl, .ty T, .base (.tup h), kit_ty e, q⟩
theorem rd_isiL {T : String} (h : H p = some (.lst xs)) (e : kitB "list" T = some b) (q : Q (.bl b) H) : rIsi K [.ref p, .ty T] H Q := ⟨_, _, _, _, b, rfl, .ty T, .base (.lst h), kit_ty e, q⟩
theorem rd_isiI {T : String} {i : Int} (e : kitB "int" T = some b) (q : Q (.bl b) H) : rIsi K [.int i, .ty T] H Q := ⟨_, _, _, _, b, rfl, .ty T, .base (.int i), kit_ty e, q⟩
theorem rd_isiS {T : String} {z : Str} (e : kitB "str" T = some b) (q : Q (.bl b) H) : rIsi K [.str z, .ty T] H Q := ⟨_, _, _, _, b, rfl, .ty T, .base (.str z), kit_ty e, q⟩
theorem kit_tt : kitB "tuple" "tuple" = some true := by decide +kernel
theorem kit_ll : kitB "list" "list" = some true := by decide +kernel
theorem kit_ii : kitB "int" "int" = some true := by decide +kernel
theorem kit_ib : kitB "int" "bool" = some false := by decide +kernel
theorem kit_ss : kitB "str" "str" = some true := by decide +kernel
theorem iteNT (h : B) : if (!true) = true then A else B := h
theorem iteNF (h : A) : if (!false) = true then A else B := h
theorem sxx {a b : Nat} : (V.str ⟨#[a]⟩ = V.str ⟨#[b]⟩) ↔ a = b :=
  ⟨fun k => by
    have q := congrArg (fun z : Str => z.cps.toList) (V.str.inj k)
    simpa using q, fun k => by rw [k]⟩
end

section
variable {σ : L2.St} {H : Hp} {K : PySem.W.Frag} {Q : VK} {tb te : TE} {D p : Addr} {xs : List V}
theorem rd_yes {QB : Bool → Hp → Prop} (q : QB true H) : tYes σ H QB := q

theorem rd_all {bs : List Bool} (h : H p = some (.lst (bs.map V.bl))) (q : Q (.bl (bs.all id)) H) : rAll K [.ref p] H Q := ⟨p, bs, rfl, SqL.of h, q⟩
theorem rd_M1 {r : V → List V → Hp → VK → Prop} {z : Str} (q : te σ H fun y H2 => r (.str z) [y] H2 Q) : tM1 r (tC (.str z)) te σ H Q := ⟨⟨z, rfl⟩, q⟩



/-- a list's append, the list an own one -/
theorem rd_app {y : V} (h : H p = some (.lst xs)) (hz : xs.length < 1000) (q : Q .non (upd H p (.lst (xs ++ [y])))) : rAppend (.ref p) [y] H Q := ⟨p, xs, y, rfl, rfl, h, small1000 (by omega), q⟩
theorem rd_BMv {t : TA} {i : Nat} {r : V → List V → Hp → VK → Prop} (hv : σ[i]? = some (some (.ref p))) (h : H p = some (.lst xs)) (q : t σ H fun vs H2 => r (.ref p) vs H2 Q) : tBM K "list" r (tVar i) t σ H Q :=
  ⟨.ref p, hv, .inl ⟨rfl, _, SqL.of h⟩, q⟩
end
/-! loops and comprehensions under names of their own -/
def Fr (J : It) (g : TG) (tb : TS) (D : Ends) (σ : L2.St) (H : Hp) : Prop :=
  ∃ W : Nat → Nat → L2.St → Hp → Prop, (∃ m, W 0 m σ H) ∧ ∀ i m σ H, W i m σ H →
    (J.stop i H ∧ D.nx σ H) ∨ (J.go i H ∧ ∃ N : L2.St → Hp → Prop, (∀ σ' H', N σ' H' → ∃ m', m' < m ∧ W (i + 1) m' σ' H') ∧ ∀ x H', J.yld i H x H' → g x σ H' fun σ2 H2 => tb { D with nx := N, ct := N, bk := D.nx } σ2 H2)
def Lc (J : It) (g : TG) (tt : TT) (te : TE) (vs : List Nat) (σ : L2.St) (H0 : Hp) (Q : VK) : Prop :=
  ∀ D, H0 D = none → ∃ W : Nat → Nat → Hp → Prop, (∃ m, W 0 m (upd H0 D (.lst []))) ∧ ∀ i m H, W i m H →
    (J.stop i H ∧ Q (.ref D) H) ∨ (J.go i H ∧ ∃ Nx : Hp → Prop, (∀ H', Nx H' → ∃ m', m' < m ∧ W (i + 1) m' H') ∧ ∀ x H', J.yld i H x H' → g x (wipe σ vs) H' fun σ2 H2 => wipe σ2 vs = wipe σ vs ∧ tt σ2 H2 fun b H3 =>
      if b = true then te σ2 H3 fun y H4 => ∃ acc, H4 D = some (.lst acc) ∧ acc.length < sizeLine ∧ Nx (upd H4 D (.lst (acc ++ [y]))) else Nx H3)
def ItT (K : PySem.W.Frag) (R : It → Hp → Prop) (x : V) (H : Hp) : Prop := ∃ a, x = .ref a ∧ (∃ xs, SqT K H a xs) ∧ R (Itt K a) H
def ItL (K : PySem.W.Frag) (R : It → Hp → Prop) (x : V) (H : Hp) : Prop := ∃ a, x = .ref a ∧ (∃ xs, SqL K H a xs) ∧ R (Itl K a) H
def Rg1 (R : It → Hp → Prop) (vs : List V) (H : Hp) : Prop := ∃ j : Int, vs = [.int j] ∧ -(2 ^ 62) ≤ j ∧ j < 2 ^ 62 ∧ R (Itr 0 j.toNat) H
section
variable {σ : L2.St} {H : Hp} {K : PySem.W.Frag} {Q : VK} {te : TE} {tr : TA} {p : Addr} {xs : List V} {wi : TI} {g : TG} {tt : TT} {vs : List Nat} {tb : TS} {D : Ends} {R : It → Hp → Prop}
theorem rd_for (q : wi σ H fun J H1 => Fr J g tb D σ H1) : tFor wi g tb D σ H := q
theorem rd_lc (q : wi σ H fun J H1 => Lc J g tt te vs σ H1 Q) : tLc wi g tt te vs σ H Q := q
theorem rd_iTup (q : te σ H fun x H1 => ItT K R x H1) : iTup K te σ H R := q
theorem rd_iList (q : te σ H fun x H1 => ItL K R x H1) : iList K te σ H R := q
theorem rd_iRg1 (q : tr σ H fun vs H1 => Rg1 R vs H1) : iRng1 tr σ H R := q
theorem rd_ItT (h : H p = some (.tup xs)) (q : R (Itt K p) H) : ItT K R (.ref p) H := ⟨p, rfl, ⟨xs, SqT.of h⟩, q⟩
theorem rd_ItL (h : H p = some (.lst xs)) (q : R (Itl K p) H) : ItL K R (.ref p) H := ⟨p, rfl, ⟨xs, SqL.of h⟩, q⟩
theorem rd_Rg1 {j : Int} (h : -100000 ≤ j ∧ j ≤ 100000) (q : R (Itr 0 j.toNat) H) : Rg1 R [.int j] H := ⟨j, rfl, by omega, by omega, q⟩
end
theorem fr_it {J : It} {n : Nat} {G : Hp → Prop} {Y : Nat → Hp → V → Hp → Prop} (w : Walk J n G Y) {g : TG} {tb : TS} {D : Ends} {σ : L2.St} {H : Hp} (Pv : Nat → L2.St → Hp → Prop) (h0 : Pv 0 σ H) (hG : ∀ i σ H, i ≤ n → Pv i σ H → G H)
    (hs : ∀ i x σ H H', i < n → Pv i σ H → Y i H x H' → g x σ H' fun σ2 H2 => tb { D with nx := Pv (i + 1), ct := Pv (i + 1), bk := D.nx } σ2 H2) (hd : ∀ σ H, Pv n σ H → D.nx σ H) : Fr J g tb D σ H := for_it w Pv h0 hG hs hd
/-- a comprehension whose items are told beforehand: ys -/
theorem lc_map {J : It} {n : Nat} {G : Hp → Prop} {Y : Nat → Hp → V → Hp → Prop} (w : Walk J n G Y) {g : TG} {tt : TT} {te : TE} {vs : List Nat} {σ : L2.St} {H0 : Hp} {Q : VK} (ys : List V) (hn : ys.length = n) (sm : n ≤ 1000)
    (hG : ∀ H, Same H0 H → G H)
    (hs : ∀ i x H H' (Qc : VK) (R : Hp → Prop), i < n → Same H0 H → Y i H x H' → (∀ y H4, Same H H4 → ys[i]? = some y → Qc y H4) →
      g x (wipe σ vs) H' fun σ2 H2 => wipe σ2 vs = wipe σ vs ∧ tt σ2 H2 fun b H3 => if b = true then te σ2 H3 Qc else R H3)
    (hd : ∀ H D, Same H0 H → H0 D = none → H D = some (.lst ys) → Q (.ref D) H) : Lc J g tt te vs σ H0 Q := fun D nD =>
  lc_it w (Qd := fun H => Q (.ref D) H) (fun i H => Same H0 H ∧ H D = some (.lst (ys.take i))) ⟨fun a o e => by rw [upd_ne (ne_of_none e nD)]; exact e, upd_same⟩ (fun i H _ p => hG H p.1)
    (fun i x H H' hi p y => hs i x H H' _ _ hi p.1 y fun z H4 S ez => by
      refine ⟨ys.take i, S _ _ p.2, small1000 (by rw [List.length_take]; omega), fun a o e => ?_, ?_⟩
      · rw [upd_ne (ne_of_none e nD)]
        exact S _ _ (p.1 _ _ e)
      · rw [upd_same, List.take_add_one, ez]
        rfl)
    (fun H p => hd H D p.1 nD (by rw [p.2, List.take_of_length_le (by omega)]))
theorem fr_rng0 {n : Nat} {g : TG} {tb : TS} {D : Ends} {σ : L2.St} {H : Hp} (Pv : Nat → L2.St → Hp → Prop) (h0 : Pv 0 σ H)
    (hs : ∀ (i : Nat) σ H, i < n → Pv i σ H → g (.int (i : Int)) σ H fun σ2 H2 => tb { D with nx := Pv (i + 1), ct := Pv (i + 1), bk := D.nx } σ2 H2) (hd : ∀ σ H, Pv n σ H → D.nx σ H) : Fr (Itr 0 n) g tb D σ H :=
  for_range Pv h0 (fun i σ H hi p => by
    have q := hs i σ H hi p
    rw [← Int.zero_add (i : Int)] at q
    exact q) hd
theorem rd_sl {r : V → Option Int → Option Int → Hp → VK → Prop} {te : TE} {tl th : TO} {σ : L2.St} {H : Hp} {Q : VK} (q : te σ H fun x H1 => tl σ H1 fun l H2 => th σ H2 fun u H3 => r x l u H3 Q) : tSl r te tl th σ H Q := q
theorem rd_noP {σ : L2.St} {H : Hp} {QO : Option Int → Hp → Prop} (q : QO none H) : tNoPart σ H QO := q
theorem rd_part {t : TE} {σ : L2.St} {H : Hp} {QO : Option Int → Hp → Prop} (q : t σ H fun x H1 => ∃ i, x = .int i ∧ QO (some i) H1) : tPart t σ H QO := q
theorem rd_i {i : Int} {P : Int → Prop} (q : P i) : ∃ k, V.int i = V.int k ∧ P k := ⟨i, rfl, q⟩
theorem rd_slL {K : PySem.W.Frag} {p : Addr} {xs : List V} {lo hi : Option Int} {H : Hp} {Q : VK} (h : SqL K H p xs) (q : ∀ l, H l = none → Q (.ref l) (upd H l (.lst (cutV xs lo hi)))) : rSlL K (.ref p) lo hi H Q := ⟨p, xs, rfl, h, q⟩
/-- a comprehension over a range -/
theorem walk_rng {n : Nat} : Walk (Itr 0 n) n (fun _ => True) (fun i H x H' => H' = H ∧ x = .int (i : Nat)) :=
  (walk_range (lo := 0)).mono (fun _ _ => trivial) fun i H x H' _ _ y => ⟨y.1, by rw [y.2]; show V.int (0 + (i : Int)) = _; rw [Int.zero_add]⟩
theorem new_gen {H : Hp} {p : Addr} (o : HO) (np : H p = none) : ∃ H', H' = upd H p o ∧ Same H H' ∧ H' p = some o := ⟨_, rfl, fun a u e => by rw [upd_ne (ne_of_none e np)]; exact e, upd_same⟩
theorem len1000 {xs : List V} (h : xs.length ≤ 1000) : xs.length ≤ sizeLine := Nat.le_of_lt (small1000 h)
theorem same_new {H0 H : Hp} {p : Addr} {o : HO} (S : Same H0 H) (np : H p = none) : Same H0 (upd H p o) := fun a u e => by
  have e2 := S a u e
  rw [upd_ne (ne_of_none e2 np)]
  exact e2
theorem same_mut {H0 H : Hp} {p : Addr} {o : HO} (S : Same H0 H) (np : H0 p = none) : Same H0 (upd H p o) := fun a u e => by
  rw [upd_ne (ne_of_none e np)]
  exact S a u e
theorem atI_int {α : Type} {xs : List α} {a : Int} (h0 : 0 ≤ a) (h1 : a < xs.length) : ∃ v, atI xs a = some v ∧ xs[a.toNat]? = some v ∧ v ∈ xs := by
  have hj : a.toNat < xs.length := by omega
  refine ⟨xs[a.toNat], ?_, List.getElem?_eq_getElem hj, List.getElem_mem hj⟩
  have e : a = ((a.toNat : Nat) : Int) := by omega
  have q := atI_nat (xs := xs) (j := a.toNat) (List.getElem?_eq_getElem hj)
  rw [← e] at q
  exact q
theorem atI_get {α : Type} {xs : List α} {j : Nat} (h : j < xs.length) : atI xs (j : Int) = some xs[j] := atI_nat (List.getElem?_eq_getElem h)
theorem ixN_of {n : Nat} {a : Int} {j : Nat} (e : a = (j : Int)) (h : j < n) : ixN n a = some j := by
  subst e
  unfold ixN
  rw [if_pos (by omega), if_pos (by omega), Int.toNat_natCast]

theorem fmod_in {a m : Int} (h : 0 < m) : 0 ≤ a.fmod m ∧ a.fmod m < m := by
  rw [Int.fmod_eq_emod_of_nonneg _ (by omega)]
  exact ⟨Int.emod_nonneg _ (by omega), Int.emod_lt_of_pos _ h⟩
/-! the bag of draws: at c the script's cells, at b [cells, place, buffer, seed, count] -/
section
variable {c b p a : Addr} {ns : List Int} {H0 H H1 H2 : Hp} {o : HO} {xs : List V}
end
/-! a list of ints against the empty list -/
theorem dp_ints {K : PySem.W.Frag} {H : Hp} : ∀ fs : List Int, DpAll K H (fs.map V.int) (fs.map PyData.int)
  | [] => .nil
  | x :: r => .cons (.int x) (dp_ints r)
theorem lay_ints : ∀ fs : List Int, PyData.canLayAll0 (fs.map PyData.int) = true ∧ PyData.depthAll (fs.map PyData.int) = 0
  | [] => ⟨rfl, rfl⟩
  | x :: r => by
    obtain ⟨h1, h2⟩ := lay_ints r
    constructor
    · show (PyData.canLay0 (.int x) && PyData.canLayAll0 (r.map PyData.int)) = true
      rw [h1]
      rfl
    · show max (PyData.depth (.int x)) (PyData.depthAll (r.map PyData.int)) = 0
      rw [h2]
      rfl
theorem shaped_ints (fs : List Int) : SeqAt.shaped (.list (fs.map PyData.int)) = true := by
  obtain ⟨h1, h2⟩ := lay_ints fs
  unfold SeqAt.shaped
  rw [Bool.and_eq_true]
  refine ⟨h1, decide_eq_true ?_⟩
  show PyData.depthAll (fs.map PyData.int) + 1 ≤ 64
  rw [h2]
  decide
theorem rd_neN {K : PySem.W.Frag} {H : Hp} {Q : VK} {p p2 : Addr} {fs : List Int} (h : H p = some (.lst (fs.map V.int))) (h2 : H p2 = some (.lst [])) (q : Q (.bl (!fs.isEmpty)) H) : rNeD K (.ref p) (.ref p2) H Q := by
  refine ⟨_, _, .lst (SqL.of h) (dp_ints fs), .lst (SqL.of h2) .nil, shaped_ints fs, by decide, ?_⟩
  cases fs with
  | nil => exact q
  | cons x r => exact q
/-! further walks -/
def EnL (K : PySem.W.Frag) (R : It → Hp → Prop) (vs : List V) (H : Hp) : Prop := ∃ a xs, vs = [.ref a] ∧ SqL K H a xs ∧ R (Ite K a) H
def ItS (R : It → Hp → Prop) (v : V) (H : Hp) : Prop := ∃ x, v = .str x ∧ R (Its x) H
section
variable {σ : L2.St} {H : Hp} {K : PySem.W.Frag} {Q : VK} {te : TE} {tr : TA} {p p2 : Addr} {xs ys : List V} {R : It → Hp → Prop}
theorem rd_iEnum (q : tr σ H fun vs H1 => EnL K R vs H1) : iEnum K tr σ H R := q
theorem rd_EnL (h : H p = some (.lst xs)) (q : R (Ite K p) H) : EnL K R [.ref p] H := ⟨p, xs, rfl, SqL.of h, q⟩
theorem rd_iStr (q : te σ H fun v H1 => ItS R v H1) : iStr te σ H R := q
theorem rd_ItS {x : Str} (q : R (Its x) H) : ItS R (.str x) H := ⟨x, rfl, q⟩
theorem rd_inT {x : V} (h : H p = some (.tup xs)) (fx : flatV x = true) (fs : xs.all flatV = true) (q : Q (.bl (inV x xs)) H) : rIn K false x (.ref p) H Q := ⟨p, xs, rfl, .inr (SqT.of h), fx, fs, q⟩
theorem rd_rep {k : Int} (h : H p = some (.lst xs)) (k0 : 0 ≤ k) (k1 : k ≤ 1000) (hl : xs.length ≤ 10) (q : ∀ l, H l = none → Q (.ref l) (upd H l (.lst (List.replicate k.toNat xs).flatten))) : rRep (.ref p) (.int k) H Q := by
  refine ⟨p, k, xs, rfl, rfl, h, by omega, by omega, ?_, q⟩
  have e1 : xs.length * k.toNat ≤ 10 * 1000 := Nat.mul_le_mul hl (by omega)
  exact Nat.le_trans e1 (by decide)
end
end Rv
/-! the mathematics of lines over looks -/
namespace Rv
open PySem PySem.Spec PyProof.Rows L2
def one (c : Nat) : Str := ⟨#[c]⟩
def txt (cs : List Nat) : Str := ⟨cs.toArray⟩
def Img (es : List Int) : Prop := 1 ≤ es.length ∧ es.length ≤ 12 ∧ ∀ e ∈ es, -1 ≤ e ∧ e ≤ 999
theorem txt_len (cs : List Nat) : (txt cs).length = cs.length := by simp [txt, Str.length]
theorem txt_inj {a b : List Nat} (h : txt a = txt b) : a = b := by
  have q := congrArg (fun z : Str => z.cps.toList) h
  exact q
theorem kind_small {e : Int} (h0 : 0 ≤ e) (h1 : e ≤ 999) : 0 ≤ e.fdiv 100 ∧ e.fdiv 100 < 10 := by
  rw [Int.fdiv_eq_ediv_of_nonneg _ (by decide)]
  omega
theorem join_sg (cs : List Nat) : Txt.join (Str.ofString "") (cs.map one) = txt cs := by
  rw [TL.join_eq]
  refine TL.ext_tl ?_
  rw [TL.tl_join]
  have go : ∀ cs : List Nat, TL.joinL (TL.tl (Str.ofString "")) ((cs.map one).map TL.tl) = cs := fun cs => by
    induction cs with
    | nil => rfl
    | cons x r ih =>
      cases r with
      | nil => rfl
      | cons y r => 
        show TL.tl (one x) ++ (TL.tl (Str.ofString "") ++ TL.joinL (TL.tl (Str.ofString "")) (((y :: r).map one).map TL.tl)) = x :: y :: r
        rw [ih]
        rfl
  exact go cs
theorem ones_sum (cs : List Nat) : ((cs.map one).map (·.length)).sum = cs.length := by
  induction cs with
  | nil => rfl
  | cons x r ih =>
    simp only [List.map_cons, List.sum_cons, List.length_cons, ih]
    show 1 + r.length = r.length + 1
    omega
def Sign (c : Nat) : Prop := c = 46 ∨ c = 42 ∨ c = 45 ∨ (48 ≤ c ∧ c ≤ 57)
/-- a row's words -/
def sCopy : Str := Str.ofString "copy"
def sMove : Str := Str.ofString "move"
def sClear : Str := Str.ofString "clear"
structure Ln where
  w : Str
  t : Int
  o : Int
  g : List Nat
def Ln.vals (r : Ln) : List V := [.str r.w, .int r.t, .int r.o, .str (txt r.g)]
structure LnOk (n : Nat) (r : Ln) : Prop where
  t0 : 0 ≤ r.t
  t1 : r.t < n
  word : (r.w = sClear ∧ r.o = -1) ∨ ((r.w = sCopy ∨ r.w = sMove) ∧ 0 ≤ r.o ∧ r.o < n ∧ r.o ≠ r.t)
  gl : r.g = [] ∨ r.g.length = n
  gs : ∀ c ∈ r.g, Sign c
theorem LnOk.gle {n : Nat} {r : Ln} (h : LnOk n r) : r.g.length ≤ n := by
  rcases h.gl with e | e
  · rw [e]; exact Nat.zero_le _
  · rw [e]; exact Nat.le_refl _
/-- the look behind a line, by the look and by the image -/
theorem atI_ints {es : List Int} {k : Int} (h0 : 0 ≤ k) (h1 : k < es.length) : atI (es.map V.int) k = some (.int (es.getD k.toNat 0)) := by
  obtain ⟨v, e1, e2, _⟩ := atI_int (xs := es.map V.int) h0 (by rw [List.length_map]; exact h1)
  rw [e1, ← e2, List.getElem?_map, List.getD_eq_getElem?_getD, List.getElem?_eq_getElem (by omega)]
  rfl
theorem atI_cods {cs : List Nat} {k : Int} (h0 : 0 ≤ k) (h1 : k < cs.length) : atI (txt cs).cps.toList k = some (cs.getD k.toNat 0) := by
  obtain ⟨v, e1, e2, _⟩ := atI_int (xs := cs) h0 h1
  show atI cs k = _
  rw [e1, ← e2, List.getD_eq_getElem?_getD, List.getElem?_eq_getElem (by omega)]
  rfl
theorem txt_small {cs : List Nat} (h : cs.length ≤ 1000) : (txt cs).length ≤ sizeLine := by
  rw [txt_len]
  exact Nat.le_of_lt (small1000 h)
end Rv
/-! lines one behind the other; twice is once; lists of tuples in a heap -/
namespace Rv
open PySem PySem.Spec PyProof.Rows L2
theorem getD_get {es : List Int} {k : Nat} (h : k < es.length) : es.getD k 0 = es[k] := by
  rw [List.getD_eq_getElem?_getD, List.getElem?_eq_getElem h]
  rfl
/-! lists of tuples -/
def TupsAt (H : Hp) (ps : List Addr) (vss : List (List V)) : Prop := ps.length = vss.length ∧ ∀ (i : Nat) (vs : List V), vss[i]? = some vs → ∃ p, ps[i]? = some p ∧ H p = some (.tup vs)
section
variable {H H' : Hp} {ps : List Addr} {vss : List (List V)} {p : Addr} {vs : List V} {c b : Addr} {ns : List Int}
theorem TupsAt.nil : TupsAt H [] [] := ⟨rfl, fun i vs e => by simp at e⟩
theorem TupsAt.same (S : Same H H') (h : TupsAt H ps vss) : TupsAt H' ps vss := ⟨h.1, fun i vs e => by
  obtain ⟨p, e1, e2⟩ := h.2 i vs e
  exact ⟨p, e1, S _ _ e2⟩⟩
theorem TupsAt.app (h : TupsAt H ps vss) (hp : H p = some (.tup vs)) : TupsAt H (ps ++ [p]) (vss ++ [vs]) := ⟨by rw [List.length_append, List.length_append, h.1]; rfl, fun i us e => by
  by_cases k : i < vss.length
  · rw [List.getElem?_append_left k] at e
    obtain ⟨q, e1, e2⟩ := h.2 i us e
    exact ⟨q, by rw [List.getElem?_append_left (by rw [h.1]; exact k)]; exact e1, e2⟩
  · rw [List.getElem?_append_right (by omega)] at e
    have hi : i - vss.length = 0 := by
      have := (List.getElem?_eq_some_iff.mp e).1
      simp at this
      omega
    rw [hi] at e
    have e3 : vs = us := by simpa using e
    refine ⟨p, ?_, e3 ▸ hp⟩
    rw [List.getElem?_append_right (by rw [h.1]; omega), h.1, hi]
    rfl⟩
theorem TupsAt.get (h : TupsAt H ps vss) {i : Nat} (hi : i < vss.length) : ∃ p, ps[i]? = some p ∧ H p = some (.tup vss[i]) := h.2 i _ (List.getElem?_eq_getElem hi)
end
def rows (rs : List Ln) : List (List V) := rs.map Ln.vals
theorem rows_len (rs : List Ln) : (rows rs).length = rs.length := by simp [rows]
theorem take_next {α : Type} {rs : List α} {i : Nat} (h : i < rs.length) : rs.take (i + 1) = rs.take i ++ [rs[i]] := by
  rw [List.take_add_one, List.getElem?_eq_getElem h]
  rfl
end Rv
/-! flows; texts repeated; lists of lines compared -/
namespace Rv
open PySem PySem.Spec PyProof.Rows L2
theorem fold_reps (c : Nat) : ∀ (m : Nat) (acc : Array Nat), ((List.replicate m (one c).cps).foldl (· ++ ·) acc).toList = acc.toList ++ List.replicate m c
  | 0, acc => by simp
  | m + 1, acc => by
    rw [List.replicate_succ, List.foldl_cons, fold_reps c m, Array.toList_append, List.append_assoc]
    rfl
def own (n : Nat) : List Int := (List.range n).map fun (i : Nat) => (i : Int)
theorem own_len (n : Nat) : (own n).length = n := by simp [own]
/-- slices -/
theorem cut_to {xs : List V} {k : Nat} (h : k ≤ xs.length) : cutV xs none (some (k : Int)) = xs.take k := by
  unfold cutV
  rw [HT.sIx_none, HT.sIx_nat, Nat.min_eq_left h, List.drop_zero, Nat.sub_zero]
/-! deep comparisons -/
end Rv
/-! the match statement: patterns of texts, names and sequences over lists -/
namespace Rv
open PySem PySem.Spec PyProof.Rows L2
section
variable {X : Cx}
end
/-! steps of these readings -/
end Rv
/-! texts of lines: words, numbers, what is read -/
namespace Rv
open PySem PySem.Spec PyProof.Rows L2
/-! rules under names of their own -/
def rAddZ : R2 := fun x y H Q => ∃ i j, x = .str i ∧ y = .str j ∧ i.length + j.length ≤ sizeLine ∧ Q (.str (i ++ j)) H
def rIsNQ : R2 := fun x y H Q => y = .non ∧ Q (.bl (decide (x = .non))) H
section
variable {X : Cx}
theorem op_addZ : OpR X (binaryOp .Add) rAddZ := op_add_str
theorem op_isNQ : OpR X (compareOp .Is) rIsNQ := op_isN
end
theorem txt_app (a b : List Nat) : txt a ++ txt b = txt (a ++ b) := SX.S_cat a b
theorem big_line {n : Nat} (h : n ≤ 1000000) : n ≤ sizeLine := Nat.le_trans h (by decide)
section
variable {σ : L2.St} {H : Hp} {K : PySem.W.Frag} {Q : VK} {te to : TE} {ts : List TE} {a b acc : List Nat} {p : Addr} {xs : List V} {QB : Bool → Hp → Prop}
theorem rd_addZ (h : a.length + b.length ≤ 1000000) (q : Q (.str (txt (a ++ b))) H) : rAddZ (.str (txt a)) (.str (txt b)) H Q := ⟨_, _, rfl, rfl, by rw [txt_len, txt_len]; exact big_line h, by rw [txt_app]; exact q⟩
theorem rd_isN {v : V} (q : Q (.bl (decide (v = .non))) H) : rIsNQ v .non H Q := ⟨rfl, q⟩
end
/-! the numbers of blocks, written -/
/-! what is read -/
structure RdOk (r : Ln) : Prop where
  t0 : 0 ≤ r.t
  t1 : r.t < 12
  word : (r.w = sClear ∧ r.o = -1) ∨ ((r.w = sCopy ∨ r.w = sMove) ∧ 0 ≤ r.o ∧ r.o < 12 ∧ r.o ≠ r.t)
  gl : r.g.length ≤ 12
  gs : ∀ c ∈ r.g, Sign c
/-! deep comparisons of lines that are read -/
end Rv
/-! own errors: made, raised, caught, asked -/
namespace Rv
open PySem PySem.Spec PyProof.Rows L2
/-- what stands at the top under a name, if it is an object -/
def atTop (K : PySem.W.Frag) (x : Str) : Addr := match PySem.W.nsIn K mainGlobals x with
  | some (some (.ref a)) => a
  | _ => 0
theorem atTop_of {K : PySem.W.Frag} {x : Str} {a : Addr} (h : PySem.W.nsIn K mainGlobals x = some (some (.ref a))) : atTop K x = a := by
  unfold atTop
  rw [h]
/-- an error class with one field f, its own maker at fI -/
structure ErrT (K : PySem.W.Frag) (mg : Str → Option Value) (C fI : Addr) (x f : Str) : Prop where
  gC : mg x = some (.ref C)
  ox : OexC K C
  xf : XfC K C
  ec : ExcC K C
  icl : PySem.W.isClsIn K C = true
  noN : PySem.W.findIn K (.ref C) f = some none
  iC : PySem.W.findIn K (.ref C) "__init__" = some (some (.ref fI))
  tI : PySem.W.typeIn K (.ref fI) = some (.type "function")
/-- isinstance of the exception that the suite holds, of an own class, with a dict -/
def rIsX (K : PySem.W.Frag) (D a : Addr) (cls : Value) (d : Option Addr) : List V → Hp → VK → Prop := fun xs H Q => ∃ (c : V) (cv : Value) (b : Bool) (dd : Addr) (fs : List (Str × V)), xs = [.ref a, c] ∧ (∀ u, RelV c u → u = cv) ∧ PySem.W.kitOne K (.ref D) cv = some b ∧ cls = .ref D ∧ d = some dd ∧ H dd = some (.xd fs) ∧ Q (.bl b) H
theorem call_isX {X : Cx} {a D : Addr} {oe : Obj} {cls : Value} {d : Option Addr} {pn : List (Addr × Obj)} (C : ExcC X.K D) (hcl : (PySem.W.clsIn X.K D).isSome = true) (hz : Zc cls d oe) (hf : ∃ vs, oe.data = .fields vs) :
    CallR (X.suite a ((a, oe) :: pn)) (.builtin "isinstance") (rIsX X.K D a cls d) := by
  intro pins s σ H xs us Q I r h
  obtain ⟨c, cv, b, dd, fs, rfl, hcv, e, rfl, rfl, ea, q⟩ := h
  cases r with
  | cons rx rr =>
    cases rr with
    | cons rt rr =>
      cases rr
      cases rx
      have ec := hcv _ rt
      subst ec
      obtain ⟨ha, _⟩ := I.pin (a, oe) (List.mem_append_left _ List.mem_cons_self)
      obtain ⟨vs, hd⟩ := hf
      have hx : ObjOk X.prog X.w H s.heap dd (.xd fs) := I.hok dd _ ea
      obtain ⟨mA, hns, _⟩ := hx
      obtain ⟨od, ho, _⟩ := lookIn_ns hns
      have J : PySem.W.InstAt s.heap a oe D (some od) := ⟨ha, hz.1, by unfold PySem.W.notCls; rw [hd] <;> rfl, by rw [hz.2]; exact ho⟩
      exact PySem.W.kia_one (PySem.W.kitx_exc hcl C.hg C.hk C.hs C.ha C.hn C.ht C.hm) I.kIn J e (fun z => nomatch z) fun tk => ⟨.bl b, H, I.kept (t' := tk) fun _ _ z => z, rfl, q⟩
theorem exm_of {K : PySem.W.Frag} {S T : Addr} {b : Bool} (h1 : PySem.W.subIn K (.ref T) (.type "BaseException") = some true) (h2 : PySem.W.isClsIn K T = true) (h3 : PySem.W.typeIn K (.ref T) = some (.type "type")) (h4 : PySem.W.subIn K (.ref S) (.ref T) = some b) :
    PySem.W.exmOne K (.ref S) (.ref T) = some b := by
  have e1 : (PySem.W.subIn K (.ref T) (.type "BaseException") == some true) = true := by rw [h1] <;> rfl
  have e2 : ((PySem.W.clsIn K T).isSome && PySem.W.typeIn K (.ref T) == some (.type "type")) = true := by
    have h2' : (PySem.W.clsIn K T).isSome = true := h2
    rw [h2', h3] <;> rfl
  show (if (PySem.W.subIn K (.ref T) (.type "BaseException") == some true) = true then (if ((PySem.W.clsIn K T).isSome && PySem.W.typeIn K (.ref T) == some (.type "type")) = true then PySem.W.subIn K (.ref S) (.ref T) else none) else none) = some b
  rw [if_pos e1, if_pos e2]
  exact h4
theorem kit_refF {K : PySem.W.Frag} {S T : Addr} (h2 : PySem.W.isClsIn K T = true) (h3 : PySem.W.typeIn K (.ref T) = some (.type "type")) (h4 : PySem.W.subIn K (.ref S) (.ref T) = some false) (h5 : PySem.W.subIn K (.ref S) (.ref S) = some true) :
    PySem.W.kitOne K (.ref S) (.ref T) = some false := by
  have ne : (Value.ref S == Value.ref T) = false := by
    refine Bool.eq_false_iff.mpr fun q => ?_
    have e : S = T := Value.ref.inj (beq_iff_eq.mp q)
    rw [← e, h5] at h4
    cases h4
  have e2 : ((PySem.W.clsIn K T).isSome && PySem.W.typeIn K (.ref T) == some (.type "type")) = true := by
    have h2' : (PySem.W.clsIn K T).isSome = true := h2
    rw [h2', h3] <;> rfl
  show (if (Value.ref S == Value.ref T) = true then some true else if ((PySem.W.clsIn K T).isSome && PySem.W.typeIn K (.ref T) == some (.type "type")) = true then PySem.W.subIn K (.ref S) (.ref T) else none) = some false
  rw [ne, if_neg Bool.false_ne_true, if_pos e2]
  exact h4
theorem kit_refV {K : PySem.W.Frag} {S : Addr} (h4 : PySem.W.subIn K (.ref S) (.type "ValueError") = some true) : PySem.W.kitOne K (.ref S) (.type "ValueError") = some true := by
  have km : PySem.W.kitMeta "ValueError" = true := by decide +kernel
  show (if (Value.ref S == Value.type "ValueError") = true then some true else if PySem.W.kitMeta "ValueError" = true then PySem.W.subIn K (.ref S) (.type "ValueError") else none) = some true
  rw [if_neg (fun z => by cases z), if_pos km]
  exact h4
/-- self.f = v, the maker's promise -/
def spErr (C : Addr) (f : Str) : Sp := fun vs H Q _ => ∃ (a : Addr) (v : V), vs = [.ref a, v] ∧ H a = some (exo a C none) ∧ ∀ d, H d = none → d ≠ a → Q .non (upd (upd H d (exd d [(f, v)])) a (exo a C (some d)))
def tRaiseQ (W : WX) (t : L2.St → Hp → XK → Prop) : TS := fun _ σ H => t σ H fun cls d H' => W cls d σ H'
theorem ps_raiseQ {X : Cx} {W : WX} {e : Expr} {t : L2.St → Hp → XK → Prop} {pos : Pos} (hc : X.calm = true) (tk : Takes X W) (he : PMk X e t) : PS X (.Raise (some e) none pos) (tRaiseQ W t) := ps_raise hc tk he
section
variable {X : Cx} {x n : Str} {c : Value} {i : Nat} {body suite : List Stmt} {b₀ : Stmt} {np pos pos' : Pos}
end
section
variable {σ : L2.St} {H : Hp} {K : PySem.W.Frag} {D : Ends} {Q : VK} {tb : WX → TS} {ts : Addr → Value → Option Addr → TS} {c : Value} {i : Nat} {W : WX} {ta : TA} {C a : Addr} {cls : Value} {d : Option Addr} {f : Str} {te : TE}
theorem rd_mkO {sp : Sp} {Q : XK} (q : ta σ H fun vs H1 => vs.length ≤ 1000 ∧ ∀ a, H1 a = none → sp (.ref a :: (vs ++ [])) (upd H1 a (exo a C none)) (fun v H2 => v = .non ∧ ∃ (d : Addr) (fs : List (Str × V)), H2 a = some (exo a C (some d)) ∧ H2 d = some (exd d fs) ∧ H1 d = none ∧ Q (.ref C) (some d) (upd (del H2 a) d (.xd fs))) (fun _ _ _ => False)) : tMkO C sp [] ta σ H Q := q
theorem rd_xfQ (q : te σ H fun x H1 => x = .ref a ∧ cls = .ref C ∧ ∃ (dd : Addr) (fs : List (Str × V)) (v : V), d = some dd ∧ H1 dd = some (.xd fs) ∧ fs.lookup f = some v ∧ Q v H1) : tXf a cls d C f te σ H Q := q
theorem rd_callS {sp : Sp} {E : L2.St → XK} (q : ta σ H fun vs H1 => sp vs H1 Q (E σ)) : tCallS sp E ta σ H Q := q
theorem rd_raise {t : L2.St → Hp → XK → Prop} (q : t σ H fun cls d H' => W cls d σ H') : tRaiseQ W t D σ H := q
theorem mkErr {Q : XK} {v : V} {H1 : Hp} (q : ∀ H' d, Same H1 H' → H' d = some (.xd [(f, v)]) → Q (.ref C) (some d) H') : [v].length ≤ 1000 ∧ ∀ a, H1 a = none → spErr C f (.ref a :: ([v] ++ [])) (upd H1 a (exo a C none))
  (fun v H2 => v = .non ∧ ∃ (d : Addr) (fs : List (Str × V)), H2 a = some (exo a C (some d)) ∧ H2 d = some (exd d fs) ∧ H1 d = none ∧ Q (.ref C) (some d) (upd (del H2 a) d (.xd fs))) (fun _ _ _ => False) := by
  refine ⟨by simp, fun a na => ⟨a, v, rfl, upd_same, fun d nd ne => ⟨rfl, d, [(f, v)], upd_same, ?_, ?_, ?_⟩⟩⟩
  · rw [upd_ne ne, upd_same]
  · rw [upd_ne ne] at nd
    exact nd
  · rw [upd_ne ne] at nd
    refine q _ d (fun b o e => ?_) upd_same
    have n1 : b ≠ a := ne_of_none e na
    have n2 : b ≠ d := ne_of_none e nd
    rw [upd_ne n2, del_ne n1, upd_ne n1, upd_ne n2, upd_ne n1]
    exact e
end
end Rv
/-! texts that may be wrong: what is read of them, line by line -/
namespace Rv
open PySem PySem.Spec PyProof.Rows L2
/-! rules of their own names, for texts that are bent -/
section
variable {σ : L2.St} {H : Hp} {K : PySem.W.Frag} {Q : VK} {te to : TE} {a b : List Nat} {p p2 : Addr} {xs ys : List V}
theorem rd_slS {lo hi : Option Int} (h : a.length ≤ 1000000) (q : Q (.str (cutS (txt a) lo hi)) H) : rSlS (.str (txt a)) lo hi H Q := ⟨_, rfl, by rw [txt_len]; exact big_line h, q⟩
theorem cutS_to {k : Nat} : cutS (txt a) none (some (k : Int)) = txt (a.take k) := by
  unfold cutS
  rw [HT.sIx_none, HT.sIx_nat, txt_len, List.drop_zero, Nat.sub_zero]
  show txt (a.take (min k a.length)) = _
  by_cases h : k ≤ a.length
  · rw [Nat.min_eq_left h]
  · rw [Nat.min_eq_right (by omega), List.take_of_length_le (Nat.le_refl _), List.take_of_length_le (by omega)]
theorem cutS_from {k : Nat} : cutS (txt a) (some (k : Int)) none = txt (a.drop k) := by
  unfold cutS
  rw [HT.sIx_none, HT.sIx_nat, txt_len]
  show txt ((a.drop (min k a.length)).take (a.length - min k a.length)) = _
  rw [List.take_of_length_le (by rw [List.length_drop]; exact Nat.le_refl _)]
  by_cases h : k ≤ a.length
  · rw [Nat.min_eq_left h]
  · rw [Nat.min_eq_right (by omega), List.drop_length, List.drop_eq_nil_of_le (by omega)]
end
/-- words that are bounded: how many, how long in all, plain signs -/
structure Wb (n t : Nat) (ws : List (List Nat)) : Prop where
  n : ws.length ≤ n
  t : ws.flatten.length ≤ t
  c : ∀ w ∈ ws, ∀ c ∈ w, c < 128
theorem Wb.len {n t : Nat} {a : List (List Nat)} (h : Wb n t a) : ∀ w ∈ a, w.length ≤ t := fun w hw => by
  have : w.length ≤ a.flatten.length := by
    obtain ⟨i, hi, rfl⟩ := List.mem_iff_getElem.mp hw
    clear h hw
    induction a generalizing i with
    | nil => exact absurd hi (Nat.not_lt_zero _)
    | cons x r ih =>
      rw [List.flatten_cons, List.length_append]
      cases i with
      | zero => show x.length ≤ _; omega
      | succ i => have := ih i (by simpa using hi); simp only [List.getElem_cons_succ]; omega
  exact Nat.le_trans this h.t
end Rv
/-! boxes of draws of any make; pairs; calls with defaults, with a star; several named clauses -/
namespace Rv
open PySem PySem.Spec PyProof.Rows L2
/-- a box of draws: where it is, what of it changes, what it rests on -/
structure Box where
  b : Addr
  m : List Addr
  fp : List Addr
  I : Hp → Prop
  sub : ∀ a ∈ m, a ∈ fp
  live : ∀ H, I H → ∀ a ∈ fp, ∃ xs, H a = some (.lst xs)
  frame : ∀ H H', I H → (∀ a ∈ fp, H' a = H a) → I H'
structure Wg (B : Box) (H0 H : Hp) : Prop where
  keep : ∀ a o, a ∉ B.m → H0 a = some o → H a = some o
  i0 : B.I H0
  i1 : B.I H
section
variable {B : Box} {p a : Addr} {H0 H H1 H2 : Hp} {o : HO} {xs : List V}
theorem Box.ne (i : B.I H) (np : H p = none) : p ∉ B.fp := fun h => by
  obtain ⟨ys, e⟩ := B.live _ i p h
  rw [np] at e
  cases e
theorem Box.nem (i : B.I H) (np : H p = none) : p ∉ B.m := fun h => B.ne i np (B.sub _ h)
theorem Box.tupm (i : B.I H) (h : H p = some (.tup xs)) : p ∉ B.m := fun k => by
  obtain ⟨ys, e⟩ := B.live _ i p (B.sub _ k)
  rw [h] at e
  cases e
theorem Box.upd (i : B.I H) (n : p ∉ B.fp) : B.I (upd H p o) := B.frame _ _ i fun a ha => upd_ne fun e => n (e ▸ ha)
theorem Box.same (i : B.I H) (S : Same H H1) : B.I H1 := B.frame _ _ i fun a ha => by
  obtain ⟨ys, e⟩ := B.live _ i a ha
  rw [e]
  exact S _ _ e
theorem Wg.refl (i : B.I H) : Wg B H H := ⟨fun _ _ _ h => h, i, i⟩
theorem Wg.trans (w : Wg B H0 H1) (w2 : Wg B H1 H2) : Wg B H0 H2 := ⟨fun a o n h => w2.keep a o n (w.keep a o n h), w.i0, w2.i1⟩
theorem Wg.ofSame (i : B.I H) (S : Same H H1) : Wg B H H1 := ⟨fun a o _ h => S a o h, i, B.same i S⟩
theorem Wg.same (w : Wg B H0 H1) (S : Same H1 H2) : Wg B H0 H2 := w.trans (.ofSame w.i1 S)
theorem Wg.free (w : Wg B H0 H) (np : H p = none) : H0 p = none := by
  cases e : H0 p with
  | none => rfl
  | some o =>
    have n := B.nem w.i1 np
    rw [w.keep p o n e] at np
    cases np
theorem Wg.tup (w : Wg B H0 H) (h : H0 a = some (.tup xs)) : H a = some (.tup xs) := w.keep a _ (B.tupm w.i0 h) h
theorem Wg.lst (w : Wg B H0 H) (n : a ∉ B.m) (h : H0 a = some o) : H a = some o := w.keep a o n h
theorem Wg.mut (w : Wg B H0 H) (np : H0 p = none) : Wg B H0 (upd H p o) :=
  ⟨fun a u n h => by rw [upd_ne (ne_of_none h np)]; exact w.keep a u n h, w.i0, B.upd w.i1 (B.ne w.i0 np)⟩
theorem TupsAt.wg {ps : List Addr} {vss : List (List V)} (w : Wg B H H1) (h : TupsAt H ps vss) : TupsAt H1 ps vss := ⟨h.1, fun i vs e => by
  obtain ⟨p, e1, e2⟩ := h.2 i vs e
  exact ⟨p, e1, w.tup e2⟩⟩
end
/-- the tuples stay -/
def Kt (H H' : Hp) : Prop := ∀ a xs, H a = some (.tup xs) → H' a = some (.tup xs)
section
variable {B : Box} {p a : Addr} {H0 H H1 H2 : Hp} {o : HO} {xs : List V}
theorem Kt.same (S : Same H H1) : Kt H H1 := fun a xs h => S _ _ h
theorem Kt.wg (w : Wg B H H1) : Kt H H1 := fun a xs h => w.tup h
theorem Kt.mut (h : H p = some (.lst xs)) : Kt H (upd H p o) := fun a ys e => by
  rw [upd_ne (ne_of e h (by intro z; cases z))]
  exact e
theorem Kt.new (h : H p = none) : Kt H (upd H p o) := fun a ys e => by
  rw [upd_ne (ne_of_none e h)]
  exact e
theorem TupsAt.kt {ps : List Addr} {vss : List (List V)} (w : Kt H H1) (h : TupsAt H ps vss) : TupsAt H1 ps vss := ⟨h.1, fun i vs e => by
  obtain ⟨p, e1, e2⟩ := h.2 i vs e
  exact ⟨p, e1, w _ _ e2⟩⟩
end
/-- a comprehension within a def that draws; Pv rests on tuples alone -/
theorem lc_wg {B : Box} {J : It} {n : Nat} {G : Hp → Prop} {Y : Nat → Hp → V → Hp → Prop} (w : Walk J n G Y) {g : TG} {tt : TT} {te : TE} {vs : List Nat} {σ : L2.St} {H0 : Hp} {Q : VK} (i0 : B.I H0) (Pv : Nat → List V → Hp → Prop) (p0 : ∀ H, Kt H0 H → Pv 0 [] H)
    (st : ∀ i acc H H', Kt H H' → Pv i acc H → Pv i acc H')
    (sm : ∀ i acc H, Pv i acc H → acc.length < 1000) (hG : ∀ H, Wg B H0 H → G H)
    (hs : ∀ i x H H' acc (Qc : VK) (R : Hp → Prop), i < n → Wg B H0 H → Pv i acc H → Y i H x H' → (∀ y H4, Wg B H H4 → Pv (i + 1) (acc ++ [y]) H4 → Qc y H4) → (∀ H4, Wg B H H4 → Pv (i + 1) acc H4 → R H4) →
      g x (wipe σ vs) H' fun σ2 H2 => wipe σ2 vs = wipe σ vs ∧ tt σ2 H2 fun b H3 => if b = true then te σ2 H3 Qc else R H3)
    (hd : ∀ H D acc, Wg B H0 H → H0 D = none → H D = some (.lst acc) → Pv n acc H → Q (.ref D) H) : Lc J g tt te vs σ H0 Q := fun D nD => by
  have nm := B.nem i0 nD
  exact lc_it w (Qd := fun H => Q (.ref D) H) (fun i H => Wg B H0 H ∧ ∃ acc, H D = some (.lst acc) ∧ Pv i acc H) ⟨(Wg.refl i0).mut nD, [], upd_same, p0 _ (Kt.new nD)⟩ (fun i H _ p => hG H p.1)
    (fun i x H H' hi p y => by
      obtain ⟨w0, acc, hD, pa⟩ := p
      refine hs i x H H' acc _ _ hi w0 pa y (fun z H4 w4 pz => ?_) (fun H4 w4 pz => ⟨w0.trans w4, acc, w4.lst nm hD, pz⟩)
      have hD4 := w4.lst nm hD
      exact ⟨acc, hD4, small1000 (by have := sm i acc H pa; omega), (w0.trans w4).mut nD, _, upd_same, st _ _ _ _ (Kt.mut hD4) pz⟩)
    (fun H p => by
      obtain ⟨w0, acc, hD, pa⟩ := p
      exact hd H D acc w0 nD hD pa)
/-! pairs -/
def pv (p : Int × Int) : List V := [.int p.1, .int p.2]
structure PairOk (n : Nat) (p : Int × Int) : Prop where
  t0 : 0 ≤ p.1
  t1 : p.1 < n
  s0 : 0 ≤ p.2
  s1 : p.2 < n
  ne : p.1 ≠ p.2
def pvs (ps : List (Int × Int)) : List (List V) := ps.map pv
theorem pvs_len (ps : List (Int × Int)) : (pvs ps).length = ps.length := by simp [pvs]
theorem mod_pair {t d n : Int} (t0 : 0 ≤ t) (t1 : t < n) (d0 : 0 ≤ d) (d1 : d < n - 1) : 0 ≤ (t + 1 + d).fmod n ∧ (t + 1 + d).fmod n < n ∧ t ≠ (t + 1 + d).fmod n := by
  have hn : 0 < n := by omega
  rw [Int.fmod_eq_emod_of_nonneg _ (by omega)]
  by_cases k : t + 1 + d < n
  · rw [Int.emod_eq_of_lt (by omega) k]
    omega
  · have e : (t + 1 + d) % n = t + 1 + d - n := by
      have e1 : t + 1 + d = (t + 1 + d - n) + n := by omega
      rw [e1, Int.add_emod_right, Int.emod_eq_of_lt (by omega) (by omega)]
      omega
    rw [e]
    omega
/-! calls -/
/-- a def with one default, None -/
structure DefD (K : PySem.W.Frag) (mg : Str → Option Value) (x : Str) (st : Stmt) (ps : List Str) (f : Addr) (fd : FuncData) : Prop where
  F : FunD K x x (defArgs st) (defBody st) (defScope st) [.non] [] f fd
  b : Binds K fd ps []
  b1 : ∃ ds, Vals [V.non] ds ∧ Binds K fd ps ds
  g : mg x = some (.ref f)
/-- a def whose only parameter is starred -/
structure DefS (K : PySem.W.Frag) (mg : Str → Option Value) (x : Str) (st : Stmt) (f : Addr) (fd : FuncData) : Prop where
  F : Fun K x x st f fd
  g : mg x = some (.ref f)
section
variable {X : Cx} {k : Nat} {f : Addr} {sp : Sp} {x : Str} {p pos : Pos} {e : Expr} {es : List Expr} {t : TA} {CX : CXT} {E : XK}
def tCallR (sp : Sp) (E : XK) (t : TA) : TE := fun σ H Q => t σ H fun vs H1 => sp vs H1 Q E
theorem rd_callR {σ : L2.St} {H : Hp} {Q : VK} (q : t σ H fun vs H1 => sp vs H1 Q E) : tCallR sp E t σ H Q := q
end
end Rv
/-! several except clauses, each with a name of its own -/
namespace Rv
open PySem PySem.Spec PyProof.Rows L2
abbrev Suite := Addr → Value → Option Addr → TS
/-- what follows a suite whose name (slot i) is taken away again -/
def clr (i : Nat) (D : Ends) : Ends := ⟨fun σ H => D.nx (σ.set i none) H, D.rt, fun σ H => D.bk (σ.set i none) H, fun σ H => D.ct (σ.set i none) H⟩
/-- the clauses' wish, from the first on: class, slot, suite -/
def wCl (K : PySem.W.Frag) (D : Ends) : List (Value × Nat × Suite) → WX
  | [] => fun _ _ _ _ => False
  | (c, i, ts) :: r => fun q d σ H => ∃ b, PySem.W.exmOne K q c = some b ∧
      if b = true then ∀ a, H a = none → ts a q d (clr i D) (σ.set i (some (.ref a))) H else wCl K D r q d σ H
/-- the clauses of the text, each with its rule -/
inductive ClOk (X : Cx) : List ExceptHandler → List (Value × Nat × Suite) → Prop
  | nil {hs : List ExceptHandler} : ClOk X hs []
  | cons {x n : Str} {c : Value} {i : Nat} {ts : Suite} {b : Stmt} {bs : List Stmt} {np p : Pos} {hs : List ExceptHandler} {l : List (Value × Nat × Suite)} (hc : Names X x c) (hi : X.N[i]? = some n) (hn : X.env.kindOf n = some .local)
      (su : ∀ (a : Addr) (o : Obj) (q : Value) (d : Option Addr) (pn : List (Addr × Obj)), Zc q d o → (∃ vs, o.data = .fields vs) → PSs (X.suite a ((a, o) :: pn)) (b :: bs) (ts a q d)) (r : ClOk X hs l) :
      ClOk X (.ExceptHandler (some (.Name x np)) (some n) (b :: bs) p :: hs) ((c, i, ts) :: l)
section
variable {X : Cx} {pins : List (Addr × Obj)} {σ : L2.St} {H : Hp} {s s' : Shared} {a : Addr} {G h3 : Heap} {D : Ends} {q : Value} {d : Option Addr}
/-- what is known where an exception of the body has landed -/
structure Lands (X : Cx) (pins : List (Addr × Obj)) (σ : L2.St) (H : Hp) (s s' : Shared) (a : Addr) (G h3 : Heap) (q : Value) (d : Option Addr) : Prop where
  inv : Inv X pins σ H s
  nb : ∀ b o, s.heap.get? b = some o → b ∉ frs X.stack → G.get? b = some o
  up : s.heap.UpToSlots s'.heap
  os : s'.os = s.os
  ag : AllBare s'.gens
  na : H a = none
  fl : HandSPX.FlyingZ G (X.env :: X.outer) a (Zc q d) h3
  up3 : s'.heap.UpToSlots h3
theorem Lands.suite (L : Lands X pins σ H s s' a G h3 q d) (hf : X.env.frame = some X.env.locals) : ∃ o, h3.get? a = some o ∧ Zc q d o ∧ (∃ vs, o.data = .fields vs) ∧ Inv (X.suite a ((a, o) :: (X.pn ++ pins))) [] σ H { s' with heap := h3 } := by
  have J : Inv X pins σ H { s' with heap := h3 } := L.inv.landed L.nb L.fl.1 (L.up.trans L.up3) L.os L.ag
  obtain ⟨o, vs, ho, hz, hd⟩ := L.fl.there
  have far : a ∉ frs (X.env :: X.outer) := fun hm => by
    obtain ⟨_, o2, h2, nf⟩ := L.fl.2.2.1.mem hm
    rw [ho] at h2
    cases h2
    exact nf _ hd
  refine ⟨o, ho, hz, ⟨_, hd⟩, J.suite ho hd L.na (fun z => far ?_) fun hm => far ?_⟩
  · exact List.mem_filterMap.mpr ⟨X.env, List.mem_cons_self, by rw [hf, z]⟩
  · obtain ⟨e, he, z⟩ := List.mem_filterMap.mp hm
    exact List.mem_filterMap.mpr ⟨e, List.mem_cons_of_mem _ he, z⟩
theorem Lands.go (hN : X.N.Nodup) (hf : X.env.frame = some X.env.locals) : ∀ {hs : List ExceptHandler} {l : List (Value × Nat × Suite)} {h3 : Heap}, ClOk X hs l → Lands X pins σ H s s' a G h3 q d → wCl X.K D l q d σ H →
    wpAny (model X.prog X.w) X.A (handleBy (.ref a) X.env hs) (SP X pins D) X.xe { s' with heap := h3 } := by
  intro hs l h3 k
  induction k with
  | nil => exact fun _ w => w.elim
  | @cons x n c i ts b bs np p hs l hc hi hn su r ih =>
    intro L w
    obtain ⟨t, e1, w⟩ := w
    obtain ⟨o, ho, hz, hd, S⟩ := L.suite hf
    have cls : PySem.W.Looks (model X.prog X.w) h3 (typeOf (.ref a)) q := fun A Q E s k z => wpAny_typeOf_ref (k _ _ ho) (by rw [hz.1]; exact z)
    have ask := PySem.W.exm_one (M := model X.prog X.w) (show X.K.In h3 from S.kIn) cls e1
    have look : ∀ {Q E : Value → Shared → Prop}, Q c { s' with heap := h3 } → wpAny (model X.prog X.w) (X.A.mark (some (.ref a))) (eval (.Name x np) X.env) Q E { s' with heap := h3 } := fun z => by
      obtain ⟨hg, hb, hm | ⟨hm, hv, nn⟩⟩ := hc
      · exact ld_glob (X := X.suite a ((a, o) :: (X.pn ++ pins))) S hg hm z hb
      · exact ld_blt (X := X.suite a ((a, o) :: (X.pn ++ pins))) S hg hm hv z nn hb
    refine wpAny_handleBy_cons (codeAny_handlers_test (look (ask.here ?_))) (fun z => nomatch z)
    cases t with
    | false => exact ih L w
    | true =>
      refine codeAny_handlers_suite_as (HandSPX.lands_againZ L.fl fun h4 fl4 up4 => ?_)
      have L4 : Lands X pins σ H s s' a G h4 q d := { L with fl := fl4, up3 := L.up3.trans up4 }
      obtain ⟨o4, ho4, hz4, hd4, S4⟩ := L4.suite hf
      have w4 : ts a q d (clr i D) (σ.set i (some (.ref a))) H := w a L.na
      refine store_ok (X := X.suite a ((a, o4) :: (X.pn ++ pins))) (v := .ref a) S4 hN hi (.inl hn) rfl (fun s5 S5 => ?_) (.inr hn)
      refine wpAny_mono ((su a o4 q d (X.pn ++ pins) hz4 hd4).run [] s5 _ H _ S5 w4) (fun f s6 hp => ?_) (fun _ _ z => z.elim)
      have away : ∀ {σ6 : L2.St} {H6 : Hp} {R : Shared → Prop}, Inv (X.suite a ((a, o4) :: (X.pn ++ pins))) [] σ6 H6 s6 → (∀ s7, Inv X pins (σ6.set i none) H6 s7 → R s7) →
          wpAny (model X.prog X.w) X.A (do bindName X.env n .none; unbindBehindTheSuite X.env n p) (fun _ s7 => R s7) X.xe s6 := fun S6 z => gone_ok (S6.unsuite L.inv.ok) hN hi hn z
      cases f with
      | next => exact hp.elim fun _ hp => hp.elim fun _ hp => away hp.1 fun s7 J => ⟨_, _, J, hp.2⟩
      | brk => exact hp.elim fun _ hp => hp.elim fun _ hp => away hp.1 fun s7 J => ⟨_, _, J, hp.2⟩
      | cont => exact hp.elim fun _ hp => hp.elim fun _ hp => away hp.1 fun s7 J => ⟨_, _, J, hp.2⟩
      | ret u => exact hp.elim fun _ hp => hp.elim fun _ hp => hp.elim fun _ hp => away hp.1 fun s7 J => ⟨_, _, _, J, hp.2.1, hp.2.2⟩
end
def tTryM (K : PySem.W.Frag) (l : List (Value × Nat × Suite)) (tb : WX → TS) : TS := fun D σ H => tb (wCl K D l) D σ H
theorem ps_tryM {X : Cx} {body : List Stmt} {h₀ : ExceptHandler} {hs : List ExceptHandler} {pos : Pos} (l : List (Value × Nat × Suite)) (tb : WX → TS) (hst : X.stack = X.env :: X.outer) (hf : X.env.frame = some X.env.locals) (hN : X.N.Nodup)
    (hb : ∀ (W : WX) (pn : List (Addr × Obj)) (xe : Value → Shared → Prop), Takes (X.tr pn xe) W → PSs (X.tr pn xe) body (tb W)) (hh : ClOk X (h₀ :: hs) l) : PS X (.Try body (h₀ :: hs) [] [] pos) (tTryM X.K l tb) := by
  refine ⟨fun pins s σ H D I h => ?_⟩
  have ok := I.ok
  have fr : X.A.frames = some (X.env :: X.outer) := ok.frames.trans (congrArg some hst)
  refine wpAny_Try_except (wpAny_mono ((hb (wCl X.K D l) (X.pn ++ pins) _ (fun u s' xx => ?_)).run [] s σ H D (I.toTry _) h) (fun f s1 hp => ?_) fun _ _ z => z)
  · obtain ⟨a, G, sI, _, σ', H', q, d, rfl, J, nb, up, sky, na, os, ag, w⟩ := xx
    have sky2 : Sky G (X.env :: X.outer) a (Zc q d) X.env.locals s'.heap := hst ▸ sky
    exact Sky.land Zc.steady fr hf sky2 fun h3 fl up3 => Lands.go hN hf hh ⟨J.ofTry ok, nb, up, os, ag, na, fl, up3⟩ w
  · cases f with
    | next => exact hp.elim fun _ hp => hp.elim fun _ hp => wpAny_execs_nil ⟨_, _, hp.1.ofTry ok, hp.2⟩
    | brk => exact hp.elim fun _ hp => hp.elim fun _ hp => ⟨_, _, hp.1.ofTry ok, hp.2⟩
    | cont => exact hp.elim fun _ hp => hp.elim fun _ hp => ⟨_, _, hp.1.ofTry ok, hp.2⟩
    | ret u => exact hp.elim fun _ hp => hp.elim fun _ hp => hp.elim fun _ hp => ⟨_, _, _, hp.1.ofTry ok, hp.2.1, hp.2.2⟩
end Rv
/-! more steps of a reading; data at any depth; items that may be no lines; copy logs -/
namespace Rv
open PySem PySem.Spec PyProof.Rows L2
/-! methods of lists -/
def rInsQ : V → List V → Hp → VK → Prop := fun x vs H Q => ∃ (l : Addr) (xs : List V) (k : Nat) (y : V), x = .ref l ∧ vs = [.int (k : Int), y] ∧ H l = some (.lst xs) ∧ xs.length ≤ 1000 ∧ k ≤ 1000 ∧ Q .non (upd H l (.lst (xs.take k ++ [y] ++ xs.drop k)))
def rPopQ : V → List V → Hp → VK → Prop := fun x vs H Q => ∃ (l : Addr) (xs : List V) (k : Nat) (y : V), x = .ref l ∧ vs = [.int (k : Int)] ∧ H l = some (.lst xs) ∧ xs[k]? = some y ∧ k ≤ 1000 ∧ Q y (upd H l (.lst (xs.eraseIdx k)))
theorem mt_insQ {X : Cx} : MtR X "list.insert" rInsQ := fun pins s σ H x xs v us Q I rx rs h => by
  obtain ⟨l, ys, k, y, rfl, rfl, e, h1, h2, q⟩ := h
  exact mt_insert pins s σ H _ _ v us Q I rx rs ⟨l, ys, (k : Int), y, rfl, rfl, e, small1000 (by omega), by omega, by omega, q⟩
theorem mt_popQ {X : Cx} : MtM X "list.pop" rPopQ := fun pins s σ H x xs v us Q I rx rs h => by
  obtain ⟨l, ys, k, y, rfl, rfl, e, h1, h2, q⟩ := h
  have hk : k < ys.length := by
    by_cases z : k < ys.length
    · exact z
    · rw [List.getElem?_eq_none (by omega)] at h1
      cases h1
  refine mt_popAt pins s σ H _ _ v us Q I rx rs ⟨l, ys, (k : Int), k, y, rfl, rfl, e, by omega, by omega, ?_, h1, q⟩
  unfold seqIndex?
  have e1 : (if (k : Int) < 0 then (k : Int) + (ys.length : Int) else (k : Int)) = (k : Int) := if_neg (by omega)
  show (if (decide (0 ≤ (if (k : Int) < 0 then (k : Int) + (ys.length : Int) else (k : Int))) && decide ((if (k : Int) < 0 then (k : Int) + (ys.length : Int) else (k : Int)) < (ys.length : Int))) = true then _ else _) = _
  rw [e1, if_pos (by rw [Bool.and_eq_true]; exact ⟨decide_eq_true (by omega), decide_eq_true (by omega)⟩), Int.toNat_natCast]
section
variable {σ : L2.St} {H : Hp} {K : PySem.W.Frag} {Q : VK} {te : TE} {tr : TA} {p p2 l : Addr} {xs ys : List V} {R : It → Hp → Prop} {y : V} {k : Nat} {QB : Bool → Hp → Prop}
theorem rd_insQ (h : H l = some (.lst xs)) (hl : xs.length ≤ 1000) (hk : k ≤ 1000) (q : Q .non (upd H l (.lst (xs.take k ++ [y] ++ xs.drop k)))) : rInsQ (.ref l) [.int (k : Int), y] H Q := ⟨l, xs, k, y, rfl, rfl, h, hl, hk, q⟩
theorem rd_popQ (h : H l = some (.lst xs)) (e : xs[k]? = some y) (hk : k ≤ 1000) (q : Q y (upd H l (.lst (xs.eraseIdx k)))) : rPopQ (.ref l) [.int (k : Int)] H Q := ⟨l, xs, k, y, rfl, rfl, h, e, hk, q⟩
theorem rd_catL {xs ys : List V} (h : H p = some (.lst xs)) (h2 : H p2 = some (.lst ys)) (hl : xs.length + ys.length ≤ 1000) (q : ∀ l, H l = none → Q (.ref l) (upd H l (.lst (xs ++ ys)))) : rCat (.ref p) (.ref p2) H Q := ⟨p, p2, xs, ys, rfl, rfl, h, h2, Nat.le_of_lt (small1000 (by omega)), q⟩
theorem rd_isiN {T : String} {b : Bool} (e : kitB "NoneType" T = some b) (q : Q (.bl b) H) : rIsi K [.non, .ty T] H Q := ⟨_, _, _, _, b, rfl, .ty T, .base .non, kit_ty e, q⟩
theorem kit_nt : kitB "NoneType" "tuple" = some false := by decide +kernel
theorem kit_lt : kitB "list" "tuple" = some false := by decide +kernel
theorem kit_tl : kitB "tuple" "list" = some false := by decide +kernel
theorem rd_inLf {x : V} (h : H p = some (.lst xs)) (fx : flatV x = true) (fs : xs.all flatV = true) (q : Q (.bl (inV x xs)) H) : rIn K false x (.ref p) H Q := ⟨p, xs, rfl, .inl (SqL.of h), fx, fs, q⟩
theorem rd_ninLf {x : V} (h : H p = some (.lst xs)) (fx : flatV x = true) (fs : xs.all flatV = true) (q : Q (.bl (!inV x xs)) H) : rIn K true x (.ref p) H Q := ⟨p, xs, rfl, .inl (SqL.of h), fx, fs, q⟩
end
theorem flat_ints (ns : List Int) : (ns.map V.int).all flatV = true := List.all_eq_true.mpr fun x h => by
  obtain ⟨n, _, rfl⟩ := List.mem_map.mp h
  rfl
theorem inV_ints {k : Int} {ns : List Int} : inV (.int k) (ns.map V.int) = decide (k ∈ ns) := by
  unfold inV
  rw [List.any_map]
  have e : ((fun y => eqV y (.int k)) ∘ V.int) = fun n : Int => n == k := by
    funext n
    rfl
  rw [e, Bool.eq_iff_iff, List.any_eq_true, decide_eq_true_eq]
  exact ⟨fun ⟨x, h1, h2⟩ => by rw [← beq_iff_eq.mp h2]; exact h1, fun h => ⟨k, h, beq_self_eq_true _⟩⟩
theorem rd_idx {K : PySem.W.Frag} {H : Hp} {Q : VK} {p : Addr} {ns : List Int} {k : Int} {j : Nat} (h : H p = some (.lst (ns.map V.int))) (e : ns[j]? = some k) (no : ∀ m, m < j → ns[m]? ≠ some k) (q : Q (.int (j : Int)) H) : rIndex K (.ref p) [.int k] H Q := by
  refine ⟨p, _, .int k, j, .int k, rfl, rfl, SqL.of h, rfl, flat_ints ns, by rw [List.getElem?_map, e]; rfl, beq_self_eq_true _, fun m z hm ez => ?_, q⟩
  rw [List.getElem?_map] at ez
  cases e2 : ns[m]? with
  | none => rw [e2] at ez; cases ez
  | some n =>
    rw [e2] at ez
    cases ez
    have ne := no m hm
    rw [e2] at ne
    exact beq_eq_false_iff_ne.mpr fun z => ne (by rw [z])
/-! data at any depth -/
structure Sh (k : Nat) (d : PyData) : Prop where
  l : PyData.canLay0 d = true
  d : PyData.depth d ≤ k
theorem Sh.int {k : Nat} (i : Int) : Sh k (.int i) := ⟨rfl, Nat.zero_le _⟩
theorem Sh.bool {k : Nat} (b : Bool) : Sh k (.bool b) := ⟨rfl, Nat.zero_le _⟩
theorem Sh.str {k : Nat} {s : Str} (h : PyData.strOk s = true) : Sh k (.str s) := ⟨h, Nat.zero_le _⟩
theorem Sh.all {k : Nat} : ∀ {ds : List PyData}, (∀ d ∈ ds, Sh k d) → PyData.canLayAll0 ds = true ∧ PyData.depthAll ds ≤ k
  | [], _ => ⟨rfl, Nat.zero_le _⟩
  | d :: r, h => by
    obtain ⟨a1, a2⟩ := h d (List.mem_cons_self ..)
    obtain ⟨b1, b2⟩ := Sh.all fun e he => h e (List.mem_cons_of_mem _ he)
    constructor
    · show (PyData.canLay0 d && PyData.canLayAll0 r) = true
      rw [a1, b1]
      rfl
    · show max (PyData.depth d) (PyData.depthAll r) ≤ k
      omega
theorem Sh.tuple {k : Nat} {ds : List PyData} (h : ∀ d ∈ ds, Sh k d) : Sh (k + 1) (.tuple ds) := ⟨(Sh.all h).1, Nat.succ_le_succ (Sh.all h).2⟩
theorem Sh.list {k : Nat} {ds : List PyData} (h : ∀ d ∈ ds, Sh k d) : Sh (k + 1) (.list ds) := ⟨(Sh.all h).1, Nat.succ_le_succ (Sh.all h).2⟩
theorem Sh.shaped {d : PyData} {k : Nat} (h : Sh k d) (hk : k ≤ 64) : SeqAt.shaped d = true := by
  unfold SeqAt.shaped
  rw [Bool.and_eq_true]
  exact ⟨h.l, decide_eq_true (Nat.le_trans h.d hk)⟩
theorem strOk_txt {cs : List Nat} (h : ∀ c ∈ cs, c < 128) : PyData.strOk (txt cs) = true := by
  unfold PyData.strOk txt
  rw [Array.all_eq_true]
  intro i hi
  have hi2 : i < cs.length := by simpa using hi
  have := h _ (List.getElem_mem hi2)
  simp
  omega
theorem rd_eqd {K : PySem.W.Frag} {H : Hp} {Q : VK} {x y : V} {d : PyData} {k : Nat} (h : Dp K H x d) (h2 : Dp K H y d) (s : Sh k d) (hk : k ≤ 64 := by decide) (q : Q (.bl true) H) : rEqD K x y H Q :=
  ⟨d, d, h, h2, s.shaped hk, s.shaped hk, by rw [SeqAt.eqv_refl _ s.l]; exact q⟩
theorem rd_ned {K : PySem.W.Frag} {H : Hp} {Q : VK} {x y : V} {d : PyData} {k : Nat} (h : Dp K H x d) (h2 : Dp K H y d) (s : Sh k d) (hk : k ≤ 64 := by decide) (q : Q (.bl false) H) : rNeD K x y H Q :=
  ⟨d, d, h, h2, s.shaped hk, s.shaped hk, by rw [SeqAt.eqv_refl _ s.l]; exact q⟩
/-! what may stand in a script -/
inductive Im where
  | tup (xs : List V)
  | lst (xs : List V)
  | non
def ImAt (M : List Addr) (H : Hp) (v : V) : Im → Prop
  | .tup xs => ∃ p, v = .ref p ∧ H p = some (.tup xs)
  | .lst xs => ∃ p, v = .ref p ∧ p ∉ M ∧ H p = some (.lst xs)
  | .non => v = .non
structure ImsAt (M : List Addr) (H : Hp) (vs : List V) (is : List Im) : Prop where
  len : vs.length = is.length
  at_ : ∀ (i : Nat) (it : Im), is[i]? = some it → ∃ v, vs[i]? = some v ∧ ImAt M H v it
theorem ImAt.keep {M M' : List Addr} {H H' : Hp} {v : V} {it : Im} (h : ImAt M H v it) (hm : ∀ a ∈ M', a ∈ M) (k : ∀ a o, a ∉ M → H a = some o → H' a = some o) (k2 : Kt H H') : ImAt M' H' v it := by
  cases it with
  | tup xs =>
    obtain ⟨p, e, h⟩ := h
    exact ⟨p, e, k2 _ _ h⟩
  | lst xs =>
    obtain ⟨p, e, n, h⟩ := h
    exact ⟨p, e, fun z => n (hm _ z), k _ _ n h⟩
  | non => exact h
theorem ImsAt.keep {M M' : List Addr} {H H' : Hp} {vs : List V} {is : List Im} (h : ImsAt M H vs is) (hm : ∀ a ∈ M', a ∈ M) (k : ∀ a o, a ∉ M → H a = some o → H' a = some o) (k2 : Kt H H') : ImsAt M' H' vs is :=
  ⟨h.len, fun i it e => by
    obtain ⟨v, e1, e2⟩ := h.at_ i it e
    exact ⟨v, e1, ImAt.keep e2 hm k k2⟩⟩
theorem ImsAt.same {M : List Addr} {H H' : Hp} {vs : List V} {is : List Im} (h : ImsAt M H vs is) (S : Same H H') : ImsAt M H' vs is := h.keep (fun _ z => z) (fun a o _ e => S a o e) (Kt.same S)
/-- four fields: a word, two numbers, a text -/
def Wf : Im → Prop
  | .tup xs => xs.length = 4 → ∃ r : Ln, xs = r.vals ∧ r.g.length ≤ 1000
  | _ => True
def Good (n : Nat) (it : Im) : Prop := ∃ r : Ln, it = .tup r.vals ∧ LnOk n r
theorem vals_inj {r r2 : Ln} (h : r.vals = r2.vals) : r = r2 := by
  cases r with
  | mk w t o g =>
    cases r2 with
    | mk w2 t2 o2 g2 =>
      unfold Ln.vals at h
      simp only [List.cons.injEq, V.str.injEq, V.int.injEq, and_true] at h
      obtain ⟨h1, h2, h3, h4⟩ := h
      have h5 := txt_inj h4
      subst h1 h2 h3 h5
      rfl
theorem good_vals {n : Nat} {r : Ln} : Good n (.tup r.vals) ↔ LnOk n r := ⟨fun ⟨r2, e, k⟩ => by
  have e2 : r.vals = r2.vals := Im.tup.inj e
  rw [vals_inj e2]
  exact k, fun k => ⟨r, rfl, k⟩⟩
theorem TupsAt.ims {M : List Addr} {H : Hp} {as : List Addr} {rs : List Ln} (h : TupsAt H as (rows rs)) : ImsAt M H (as.map V.ref) (rs.map fun r => .tup r.vals) := ⟨by rw [List.length_map, List.length_map, h.1, rows_len], fun i it e => by
  rw [List.getElem?_map] at e
  cases e2 : rs[i]? with
  | none => rw [e2] at e; cases e
  | some r =>
    rw [e2] at e
    cases e
    obtain ⟨p, e3, e4⟩ := h.2 i r.vals (by unfold rows; rw [List.getElem?_map, e2]; rfl)
    exact ⟨.ref p, by rw [List.getElem?_map, e3]; rfl, p, rfl, e4⟩⟩
/-! scripts that are right, and those that are not -/
def ScrYes (H : Hp) (n : Nat) (v : V) (rs : List Ln) : Prop := ∃ (l : Addr) (as : List Addr), v = .ref l ∧ H l = some (.lst (as.map V.ref)) ∧ TupsAt H as (rows rs) ∧ rs.length ≤ 60 ∧ ∀ r ∈ rs, LnOk n r
def ScrNo (H : Hp) (n : Nat) (v : V) (k : Int) : Prop :=
  (k = -1 ∧ (v = .non ∨ (∃ p xs, v = .ref p ∧ H p = some (.tup xs)) ∨ (∃ l vs, v = .ref l ∧ H l = some (.lst vs) ∧ 60 < vs.length ∧ vs.length ≤ 1000))) ∨
  (∃ (l : Addr) (vs : List V) (is : List Im) (j : Nat), v = .ref l ∧ H l = some (.lst vs) ∧ ImsAt [] H vs is ∧ is.length ≤ 60 ∧ (∀ it ∈ is, Wf it) ∧ k = (j : Int) ∧ (∃ it, is[j]? = some it ∧ ¬ Good n it) ∧ ∀ (i : Nat) (it : Im), i < j → is[i]? = some it → Good n it)
theorem ScrYes.same {H H' : Hp} {n : Nat} {v : V} {rs : List Ln} (h : ScrYes H n v rs) (S : Same H H') : ScrYes H' n v rs := by
  obtain ⟨l, as, e, h1, h2, h3, h4⟩ := h
  exact ⟨l, as, e, S _ _ h1, h2.same S, h3, h4⟩
theorem kit_refT {K : PySem.W.Frag} {S T : Addr} (h2 : PySem.W.isClsIn K T = true) (h3 : PySem.W.typeIn K (.ref T) = some (.type "type")) (h4 : PySem.W.subIn K (.ref S) (.ref T) = some true) :
    PySem.W.kitOne K (.ref S) (.ref T) = some true := by
  have e2 : ((PySem.W.clsIn K T).isSome && PySem.W.typeIn K (.ref T) == some (.type "type")) = true := by
    have h2' : (PySem.W.clsIn K T).isSome = true := h2
    rw [h2', h3] <;> rfl
  show (if (Value.ref S == Value.ref T) = true then some true else if ((PySem.W.clsIn K T).isSome && PySem.W.typeIn K (.ref T) == some (.type "type")) = true then PySem.W.subIn K (.ref S) (.ref T) else none) = some true
  by_cases z : (Value.ref S == Value.ref T) = true
  · rw [if_pos z]
  · rw [if_neg z, if_pos e2]
    exact h4
end Rv
/-! what copy logs do -/
namespace Rv
open PySem PySem.Spec PyProof.Rows L2
def aft (p : Int × Int) (es : List Int) : List Int := es.set p.1.toNat (es.getD p.2.toNat 0)
def fin (es : List Int) (ps : List (Int × Int)) : List Int := ps.foldl (fun es p => aft p es) es
/-! idle lines -/
/-- a comprehension whose step makes nothing of what stood; Pv tells what is made so far -/
theorem lc_acc2 {J : It} {n : Nat} {G : Hp → Prop} {Y : Nat → Hp → V → Hp → Prop} (w : Walk J n G Y) {g : TG} {tt : TT} {te : TE} {vs : List Nat} {σ : L2.St} {H0 : Hp} {Q : VK} (Pv : Nat → List V → Hp → Prop) (p0 : Pv 0 [] H0)
    (st : ∀ i acc H H', Kt H H' → Pv i acc H → Pv i acc H') (sm : ∀ i acc H, i ≤ n → Pv i acc H → acc.length < 1000) (hG : ∀ H, Same H0 H → G H)
    (hs : ∀ i x H H' acc (Qc : VK) (R : Hp → Prop), i < n → Same H0 H → Pv i acc H → Y i H x H' → (∀ y H4, Same H H4 → Pv (i + 1) (acc ++ [y]) H4 → Qc y H4) → (∀ H4, Same H H4 → Pv (i + 1) acc H4 → R H4) →
      g x (wipe σ vs) H' fun σ2 H2 => wipe σ2 vs = wipe σ vs ∧ tt σ2 H2 fun b H3 => if b = true then te σ2 H3 Qc else R H3)
    (hd : ∀ H D acc, Same H0 H → H0 D = none → H D = some (.lst acc) → Pv n acc H → Q (.ref D) H) : Lc J g tt te vs σ H0 Q := fun D nD =>
  lc_it w (Qd := fun H => Q (.ref D) H) (fun i H => Same H0 H ∧ i ≤ n ∧ ∃ acc, H D = some (.lst acc) ∧ Pv i acc H) ⟨same_new (Same.refl _) nD, Nat.zero_le _, [], upd_same, st _ _ _ _ (Kt.new nD) p0⟩ (fun i H _ p => hG H p.1)
    (fun i x H H' hi p y => by
      obtain ⟨w0, hin, acc, hD, pa⟩ := p
      refine hs i x H H' acc _ _ hi w0 pa y (fun z H4 S4 pz => ?_) (fun H4 S4 pz => ⟨w0.trans S4, hi, acc, S4 _ _ hD, pz⟩)
      have hD4 := S4 _ _ hD
      exact ⟨acc, hD4, small1000 (by have := sm i acc H (by omega) pa; omega), same_mut (w0.trans S4) nD, hi, _, upd_same, st _ _ _ _ (Kt.mut hD4) pz⟩)
    (fun H p => by
      obtain ⟨w0, _, acc, hD, pa⟩ := p
      exact hd H D acc w0 nD hD pa)
theorem lc_acc {J : It} {n : Nat} {G : Hp → Prop} {Y : Nat → Hp → V → Hp → Prop} (w : Walk J n G Y) {g : TG} {tt : TT} {te : TE} {vs : List Nat} {σ : L2.St} {H0 : Hp} {Q : VK} (Pv : Nat → List V → Prop) (p0 : Pv 0 [])
    (sm : ∀ i acc, i ≤ n → Pv i acc → acc.length < 1000) (hG : ∀ H, Same H0 H → G H)
    (hs : ∀ i x H H' acc (Qc : VK) (R : Hp → Prop), i < n → Same H0 H → Pv i acc → Y i H x H' → (∀ y H4, Same H H4 → Pv (i + 1) (acc ++ [y]) → Qc y H4) → (∀ H4, Same H H4 → Pv (i + 1) acc → R H4) →
      g x (wipe σ vs) H' fun σ2 H2 => wipe σ2 vs = wipe σ vs ∧ tt σ2 H2 fun b H3 => if b = true then te σ2 H3 Qc else R H3)
    (hd : ∀ H D acc, Same H0 H → H0 D = none → H D = some (.lst acc) → Pv n acc → Q (.ref D) H) : Lc J g tt te vs σ H0 Q :=
  lc_acc2 w (fun i acc _ => Pv i acc) p0 (fun _ _ _ _ _ p => p) (fun i acc _ => sm i acc) hG hs hd
end Rv
/-! new objects by what holds of them; the box of the laws on copy logs; orders -/
namespace Rv
open PySem PySem.Spec PyProof.Rows L2
def New (o : HO) (n : Nat) (Q : VK) (H : Hp) : Prop := n ≤ sizeLine ∧ ∀ p, H p = none → Q (.ref p) (upd H p o)
def NewL (o : HO) (Q : VK) (H : Hp) : Prop := ∀ p, H p = none → Q (.ref p) (upd H p o)
section
variable {σ : L2.St} {H : Hp} {K : PySem.W.Frag} {Q : VK} {tr : TA} {a : Addr} {xs ys : List V} {o : HO} {n : Nat} {te : L2.St → Hp → (Int → Int → Hp → Prop) → Prop} {lo hi : Option Int}
theorem new_q {R : Hp → Prop} {p : Addr} {o : HO} (np : H p = none) (q : ∀ H2, Same H H2 → H2 p = some o → R H2) : R (upd H p o) := q _ (fun a u e => by rw [upd_ne (ne_of_none e np)]; exact e) upd_same
theorem rd_newL (q : ∀ H2 p, Same H H2 → H p = none → H2 p = some o → Q (.ref p) H2) : NewL o Q H := fun p np => new_q (R := fun H => Q (.ref p) H) np fun H2 S h => q H2 p S np h
theorem rd_newQ (hn : n ≤ 1000) (q : ∀ H2 p, Same H H2 → H p = none → H2 p = some o → Q (.ref p) H2) : New o n Q H := ⟨Nat.le_of_lt (small1000 hn), rd_newL q⟩
theorem rd_tupN (q : tr σ H fun xs H1 => New (.tup xs) xs.length Q H1) : tTup tr σ H Q := q
theorem rd_lstN (q : tr σ H fun xs H1 => New (.lst xs) xs.length Q H1) : tLst tr σ H Q := q
theorem rd_lstLN (h : H a = some (.lst xs)) (q : NewL (.lst xs) Q H) : rLstQ K [.ref a] H Q := ⟨a, xs, rfl, .inl (SqL.of h), q⟩
theorem rd_lstTN (h : H a = some (.tup xs)) (q : NewL (.lst xs) Q H) : rLstQ K [.ref a] H Q := ⟨a, xs, rfl, .inr (SqT.of h), q⟩
theorem rd_tupLN (h : H a = some (.lst xs)) (q : NewL (.tup xs) Q H) : rTupQ K [.ref a] H Q := ⟨a, xs, rfl, SqL.of h, q⟩
theorem rd_slLN (h : H a = some (.lst xs)) (q : NewL (.lst (cutV xs lo hi)) Q H) : rSlL K (.ref a) lo hi H Q := ⟨a, xs, rfl, SqL.of h, q⟩
theorem rd_catLN {b : Addr} (h : H a = some (.lst xs)) (h2 : H b = some (.lst ys)) (hl : xs.length + ys.length ≤ 1000) (q : NewL (.lst (xs ++ ys)) Q H) : rCat (.ref a) (.ref b) H Q := rd_catL h h2 hl q
end
/-! dicts by whole numbers -/
/-! the box -/
/-! orders of the blocks -/
structure Ord (n : Nat) (os : List Int) : Prop where
  perm : os.Perm (own n)
theorem Ord.len {n : Nat} {os : List Int} (o : Ord n os) : os.length = n := o.perm.length_eq.trans (own_len n)
/-- a list of pairs that grows -/
structure Lg (H : Hp) (l : Addr) (n : Nat) (as : List Addr) (ps : List (Int × Int)) : Prop where
  at_ : H l = some (.lst (as.map V.ref))
  t : TupsAt H as (pvs ps)
  ok : ∀ p ∈ ps, PairOk n p
section
variable {H H' : Hp} {l D : Addr} {n : Nat} {as : List Addr} {ps : List (Int × Int)} {p : Int × Int}
theorem Lg.len (L : Lg H l n as ps) : as.length = ps.length := L.t.1.trans (pvs_len ps)
theorem TupsAt.cat {H : Hp} {xs ys : List (List V)} {as bs : List Addr} (t : TupsAt H as xs) (u : TupsAt H bs ys) : TupsAt H (as ++ bs) (xs ++ ys) := ⟨by rw [List.length_append, List.length_append, t.1, u.1], fun i us e => by
  by_cases z : i < xs.length
  · rw [List.getElem?_append_left z] at e
    obtain ⟨p, e1, e2⟩ := t.2 i us e
    exact ⟨p, by rw [List.getElem?_append_left (by rw [t.1]; exact z)]; exact e1, e2⟩
  · rw [List.getElem?_append_right (by omega)] at e
    obtain ⟨p, e1, e2⟩ := u.2 _ us e
    exact ⟨p, by rw [List.getElem?_append_right (by rw [t.1]; omega), t.1]; exact e1, e2⟩⟩
end
end Rv
/-! items of scripts that are made wrong: their data, their marks -/
namespace Rv
open PySem PySem.Spec PyProof.Rows L2
theorem SqT.sm {K : PySem.W.Frag} {H H' : Hp} {a : Addr} {xs : List V} (S : Same H H') (h : SqT K H a xs) : SqT K H' a xs := h.imp (fun z => z.imp (fun y => S _ _ y) fun ⟨o, y⟩ => ⟨o, S _ _ y⟩) id
mutual
theorem Dp.sm {K : PySem.W.Frag} {H H' : Hp} (S : Same H H') : ∀ {v : V} {d : PyData}, Dp K H v d → Dp K H' v d
  | _, _, .non => .non
  | _, _, .bl b => .bl b
  | _, _, .int i => .int i
  | _, _, .str x => .str x
  | _, _, .lst h k => .lst (Same.seq S h) (DpAll.sm S k)
  | _, _, .tup h k => .tup (SqT.sm S h) (DpAll.sm S k)
theorem DpAll.sm {K : PySem.W.Frag} {H H' : Hp} (S : Same H H') : ∀ {vs : List V} {ds : List PyData}, DpAll K H vs ds → DpAll K H' vs ds
  | _, _, .nil => .nil
  | _, _, .cons h k => .cons (Dp.sm S h) (DpAll.sm S k)
end
theorem DpAll.at {K : PySem.W.Frag} {H : Hp} : ∀ {vs : List V} {ds : List PyData}, vs.length = ds.length → (∀ (i : Nat) v d, vs[i]? = some v → ds[i]? = some d → Dp K H v d) → DpAll K H vs ds
  | [], [], _, _ => .nil
  | v :: vs, d :: ds, h, k => .cons (k 0 v d rfl rfl) (DpAll.at (by simpa using h) fun i v d e1 e2 => k (i + 1) v d e1 e2)
  | [], _ :: _, h, _ => by simp at h
  | _ :: _, [], h, _ => by simp at h
/-! fields of items -/
/-- what a def hands over: new, if it is a list -/
def ImNew (H H' : Hp) (v : V) : Im → Prop
  | .tup xs => ∃ p, v = .ref p ∧ H' p = some (.tup xs)
  | .lst xs => ∃ p, v = .ref p ∧ H p = none ∧ H' p = some (.lst xs)
  | .non => v = .non
theorem ImNew.at_ {M : List Addr} {H H' : Hp} {v : V} {it : Im} (h : ImNew H H' v it) (live : ∀ a ∈ M, H a ≠ none) : ImAt M H' v it := by
  cases it with
  | tup xs => exact h
  | lst xs =>
    obtain ⟨p, e, np, h⟩ := h
    exact ⟨p, e, fun z => live p z np, h⟩
  | non => exact h
/-! marks: 0 a plain copy, 1 another line, 2 no line -/
theorem ins_get {α : Type} {xs : List α} {x : α} {k i : Nat} (hk : k ≤ xs.length) : (xs.take k ++ [x] ++ xs.drop k)[i]? = if i < k then xs[i]? else if i = k then some x else xs[i - 1]? := by
  have lt : (xs.take k).length = k := by rw [List.length_take]; omega
  by_cases h1 : i < k
  · rw [if_pos h1, List.append_assoc, List.getElem?_append_left (by omega), List.getElem?_take_of_lt h1]
  · rw [if_neg h1]
    by_cases h2 : i = k
    · rw [if_pos h2, List.getElem?_append_left (by rw [List.length_append, lt, List.length_singleton]; omega), List.getElem?_append_right (by omega), lt, h2, Nat.sub_self]
      rfl
    · rw [if_neg h2, List.getElem?_append_right (by rw [List.length_append, lt, List.length_singleton]; omega), List.length_append, lt, List.length_singleton, List.getElem?_drop]
      congr 1
      omega
theorem ins_len {α : Type} {xs : List α} {x : α} {k : Nat} (hk : k ≤ xs.length) : (xs.take k ++ [x] ++ xs.drop k).length = xs.length + 1 := by
  rw [List.length_append, List.length_append, List.length_take, List.length_drop, List.length_singleton]
  omega
theorem ImsAt.ins {M : List Addr} {H : Hp} {vs : List V} {is : List Im} (h : ImsAt M H vs is) {v : V} {it : Im} (b : ImAt M H v it) {k : Nat} (hk : k ≤ is.length) : ImsAt M H (vs.take k ++ [v] ++ vs.drop k) (is.take k ++ [it] ++ is.drop k) := by
  have hk2 : k ≤ vs.length := by rw [h.len]; exact hk
  refine ⟨by rw [ins_len hk, ins_len hk2, h.len], fun i a e1 => ?_⟩
  rw [ins_get hk] at e1
  rw [ins_get hk2]
  by_cases h1 : i < k
  · rw [if_pos h1] at e1 ⊢
    exact h.at_ i a e1
  · rw [if_neg h1] at e1 ⊢
    by_cases h2 : i = k
    · rw [if_pos h2] at e1 ⊢
      cases e1
      exact ⟨v, rfl, b⟩
    · rw [if_neg h2] at e1 ⊢
      exact h.at_ _ a e1
theorem ImsAt.wg {B : Box} {M : List Addr} {H H' : Hp} {vs : List V} {is : List Im} (h : ImsAt M H vs is) (w : Wg B H H') (hm : ∀ a ∈ B.m, a ∈ M) : ImsAt M H' vs is := h.keep (fun _ z => z) (fun a o n e => w.keep a o (fun z => n (hm a z)) e) (Kt.wg w)
/-- a list of M is changed -/
theorem ImsAt.chg {M : List Addr} {H : Hp} {vs xs : List V} {is : List Im} {f : Addr} {o : HO} (h : ImsAt M H vs is) (hf : H f = some (.lst xs)) (fm : f ∈ M) : ImsAt M (upd H f o) vs is := h.keep (fun _ z => z) (fun a u n e => by rw [upd_ne (fun z : a = f => n (by rw [z]; exact fm))]; exact e) (Kt.mut hf)
/-! texts by multiplication, none among them -/
def rMulY : R2 := fun x y H Q => ∃ c n : Nat, x = .str (one c) ∧ y = .int n ∧ n ≤ 13 ∧ Q (.str (txt (List.replicate n c))) H
theorem op_mulY {X : Cx} : OpR X (binaryOp .Mult) rMulY := by
  intro pins s σ H x y v u Q I rx ry h
  obtain ⟨c, n, rfl, rfl, n13, q⟩ := h
  obtain ⟨t, rfl⟩ := rx
  obtain ⟨t', rfl⟩ := ry
  have l1 : (one c).length = 1 := rfl
  have hn : n = 0 ∨ n = 1 ∨ n = 2 ∨ n = 3 ∨ n = 4 ∨ n = 5 ∨ n = 6 ∨ n = 7 ∨ n = 8 ∨ n = 9 ∨ n = 10 ∨ n = 11 ∨ n = 12 ∨ n = 13 := by omega
  have ok : MulOk (one c) (n : Int) := by
    refine ⟨?_, fun z _ => ?_, fun _ _ => ?_⟩
    · rw [Bool.or_eq_false_iff]
      exact ⟨decide_eq_false (by omega), decide_eq_false (by omega)⟩
    · rw [l1]
      have : (1 : Int) ≤ (2 ^ 63 - 1) / (n : Int) := by
        rw [Int.le_ediv_iff_mul_le (by omega)]
        omega
      omega
    · rw [l1, Int.toNat_natCast, Nat.one_mul]
      rcases hn with k | k | k | k | k | k | k | k | k | k | k | k | k | k <;> rw [k] <;> decide
  have e : Txt.mul (one c) (n : Int) = txt (List.replicate n c) := by
    unfold Txt.mul
    by_cases k0 : n = 0
    · subst k0
      rfl
    · rw [if_neg (by omega)]
      by_cases k : n = 1
      · subst k
        rfl
      · have f : ((n : Int) == 1 || (one c).length == 0) = false := by
          rw [Bool.or_eq_false_iff]
          exact ⟨beq_eq_false_iff_ne.mpr (by omega), rfl⟩
        rw [f, if_neg Bool.false_ne_true, Int.toNat_natCast]
        refine TL.ext_tl ?_
        show ((List.replicate n (one c).cps).foldl (· ++ ·) #[]).toList = List.replicate n c
        rw [fold_reps]
        rfl
  refine SB.mul ok fun t2 k => ?_
  rw [e]
  exact ⟨.str (txt (List.replicate n c)), H, I.tok _, ⟨_, rfl⟩, q⟩
theorem rd_mulY {c n : Nat} {i : Int} {H : Hp} {Q : VK} (e : i = (n : Int)) (n13 : n ≤ 13) (q : Q (.str (txt (List.replicate n c))) H) : rMulY (.str (one c)) (.int i) H Q := ⟨c, n, rfl, by rw [e], n13, q⟩
theorem rd_tryM {K : PySem.W.Frag} {l : List (Value × Nat × Suite)} {tb : WX → TS} {D : Ends} {σ : L2.St} {H : Hp} (q : tb (wCl K D l) D σ H) : tTryM K l tb D σ H := q
end Rv
/-! defs that raise nothing, called within an except suite -/
namespace Rv
open PySem PySem.Spec PyProof.Rows L2
/-- such a def's promise; p: the object of what is handled -/
structure FnQ (P : Program) (w : World) (K : PySem.W.Frag) (mg : Str → Option Value) (base : Heap) (k : Nat) (f : Addr) (fd : FuncData) (ps : List Str) (sp : Sp) : Prop where
  len : ∀ vs H Q E, sp vs H Q E → vs.length = ps.length
  go : ∀ (A : Around) (outer : List Env) (s : Shared) (H : Hp) (args : Args) (us : List Value) (vs : List V) (Q : VK) (E : XK) (p : Addr × Obj),
    L2H.RoomH k A → L2H.PinOk outer H s p → Env0 P w K mg base A outer s H → BindsTo s fd args (ps.zip us) → Vals vs us → sp vs H Q E → codeAny (model P w) A (.call (.ref f) args) (CR CX0 outer P w H s Q E) s
section
variable {P : Program} {w : World} {K : PySem.W.Frag} {mg : Str → Option Value} {base : Heap} {k : Nat} {f : Addr} {fd : FuncData} {N ps : List Str} {sp : Sp} {st : Stmt} {x qual : Str}
theorem fn_Q (F : Fun K x qual st f fd) (S : FnScope N ps (defScope st)) (len : ∀ vs H Q E, sp vs H Q E → vs.length = ps.length)
    (hb : ∀ (cdv : Value) (A : Around) (outer : List Env) (s : Shared) (H : Hp) (vs : List V) (Q : VK) (E : XK) (p : Addr × Obj), L2H.RoomH k (A.deeper (envOfC qual (defScope st) s.heap.objs.size f cdv)) → sp vs H Q E →
      ∃ t, PSs (L2H.cxH CX0 P w K mg base N qual (defScope st) f cdv A outer s H E p) (defBody st) t ∧ t ⟨fun _ H1 => Q .non H1, Q, fun _ _ => False, fun _ _ => False⟩ (L2.start N vs) H) : FnQ P w K mg base (k + 1) f fd ps sp := by
  obtain ⟨oc, od, kV, doc, pm, an, cdv, ct, osl, rfl, lk, hcd⟩ := F.ex
  constructor
  · exact len
  intro A outer s H args us vs Q E p hr pin e0 hbd rv hsp
  have hl := len _ _ _ _ hsp
  have base_in := e0.mod.kin.keeps fun b o e => (e0.bs b o e).1
  have base_lim := e0.mod.nolimit.keeps fun b o e => (e0.bs b o e).1
  have kinds : ∀ y ∈ ps.zip us, (defScope st).names.lookup y.1 = some .local ∨ ((defScope st).names.lookup y.1 = some .cell ∧ ((cellsFrom (s.heap.objs.size + 1) (defScope st).names []).lookup y.1).isSome = true) := by
    rintro ⟨n, v⟩ hy
    exact (S.par n (List.of_mem_zip hy).1).imp id fun q => ⟨q, PySem.W.cellsFrom_some _ _ _ (.inl q)⟩
  refine codeAny_call_function hr.depth (base_in _ _ lk) rfl S.co S.gen rfl (PySem.W.codeRec_of base_in hcd) (hbd _ _ _ _ (wpAny_newFunctionEnv_cells S.kind kinds fun env he s1 xc => ?_))
  subst he
  obtain ⟨t, ht, hq⟩ := hb cdv A outer s H vs Q E p (hr.deeper _) hsp
  refine ⟨base_lim.keeps xc.toInCall.keep, codeAny_func (wpAny_mono (ht.run [] s1 _ H _ (L2H.inv_startH S pin e0 hl rv xc) hq) (fun fl s2 hs => ?_) fun e s2 hs => hs)⟩
  cases fl with
  | ret u => exact hs.elim fun v hs => hs.elim fun σ1 hs => hs.elim fun H1 hs => ⟨v, H1, hs.1.os, hs.1.bare, hs.1.base, hs.1.hok, hs.2.1, hs.2.2⟩
  | next => exact hs.elim fun σ1 hs => hs.elim fun H1 hs => ⟨.non, H1, hs.1.os, hs.1.bare, hs.1.base, hs.1.hok, rfl, hs.2⟩
  | brk => exact hs.elim fun _ hs => hs.elim fun _ hs => hs.2.elim
  | cont => exact hs.elim fun _ hs => hs.elim fun _ hs => hs.2.elim
end
section
variable {X : Cx} {k : Nat} {f : Addr} {fd : FuncData} {ps : List Str} {sp : Sp} {x : Str} {q pos : Pos} {e : Expr} {es : List Expr} {t : TA}
theorem run_Q {pins : List (Addr × Obj)} {σ : L2.St} {H : Hp} {s : Shared} {Q : VK} {us : List Value} {vs : List V} {p : Addr × Obj} (F : FnQ X.prog X.w X.K X.mg X.base k f fd ps sp) (hr : L2H.RoomH k X.A) (hp : p ∈ X.pn) (hb : Binds X.K fd ps [])
    (I : Inv X pins σ H s) (r : Vals vs us) (h : sp vs H Q E0) : wpAny (model X.prog X.w) X.A (call (.ref f) us) (EP X pins σ Q) X.xe s := by
  have b := hb s us I.kIn (by rw [List.append_nil, ← r.length]; exact F.len _ _ _ _ h)
  rw [List.append_nil] at b
  have g := I.pin p (List.mem_append_left _ hp)
  have far : p.1 ∉ frs X.stack := fun hm => (List.mem_cons.mp (I.stkSub p.1 hm)).elim g.2.2.1 g.2.2.2.1
  refine wpAny_call (codeAny_mono (F.go X.A X.stack s H ⟨us, []⟩ us vs Q E0 p hr ⟨g.1, g.2.1, far, g.2.2.2.2⟩ I.env0 b r h) fun r s1 hq => ?_)
  match r, hq with
  | .error e, hq => exact hq.elim
  | .ok (.ret u), hq => exact I.after hq
  | .ok .next, hq => exact hq.elim
  | .ok .brk, hq => exact hq.elim
  | .ok .cont, hq => exact hq.elim
theorem pe_callQ {p : Addr × Obj} (F : FnQ X.prog X.w X.K X.mg X.base k f fd ps sp) (hr : L2H.RoomH k X.A) (hp : p ∈ X.pn) (hg : Gl X x) (hm : X.mg x = some (.ref f)) (hk : PySem.W.keepIn X.K (.ref f) = true) (hb : Binds X.K fd ps []) (ha : PA X (e :: es) t)
    (hd : (x == ("__debug__" : Str)) = false := by decide) (he : starEach (e :: es) X.env = (false, eval e X.env) :: starEach es X.env := by rfl) (hpl : (backTo pos (starEach es X.env)).any (·.1) = false := by rfl) :
    PE X (.Call (.Name x q) (e :: es) [] pos) (tCallR sp E0 t) :=
  ⟨fun pins s σ H Q I h => wpAny_Call_Name_kw (ld_glob I hg hm (PySem.W.callWith_K (h₀ := X.base) I.ok.mod.kin hk (thn (ha.run pos pins s σ H _ I h) fun us s1 z => by
    obtain ⟨vs, H1, I1, r, q⟩ := z
    exact ⟨I1.kIn, run_Q F hr hp hb I1 r q⟩) he hpl) hd)⟩
theorem roomQ {j k : Nat} {A : Around} (r : Room k A) (h : j ≤ k) (e : Option Value) : L2H.RoomH j (A.mark e) := L2H.RoomH.mono (k := k) ⟨r.dp, r.un⟩ h
end
end Rv
/-! sets of whole numbers, made of lists and tuples -/
namespace Rv
open PySem PySem.Spec PyProof.Rows L2
section
variable {P : Program} {w : World} {A : Around} {E : Value → Shared → Prop} {s : Shared}
abbrev noSet (w : World) : Obj := ⟨.type "set", none, .set #[] 0 (.fresh 0 0 (!w.params.followText "set-order")), #[]⟩
theorem set_list {l : Addr} {its : Array Value} {ns : List Int} {Q : Value → Shared → Prop} (calm : A.handled = none) (isl : s.heap.IsList l its) (vals : IntsAre its.toList ns) (small : ns.length + 1 < scanBound)
    (fin : ∀ (G : Heap) (tk c : Nat), SetR w G s.heap.objs.size (fun j => decide (j ∈ ns)) c → c ≤ ns.length → (∀ b o, s.heap.get? b = some o → G.get? b = some o) → Q (.ref s.heap.objs.size) { s with heap := G, toks := tk }) :
    wpAny (model P w) A (call (.type "set") [.ref l]) Q E s := by
  have many : its.size = ns.length := by rw [← Array.length_toList]; exact IntsAre.length vals
  obtain ⟨cc, tl, hmro⟩ := F.called_set.mro
  have m0 := F.called_set.made
  have m1 := F.called_set.sub
  have m2 := F.called_set.notType
  have m3 := F.called_set.canCreate
  have m4 := F.typeCall_set_1 (.ref l)
  refine wpAny_call (codeAny_of_tree ?_)
  show wpAny (model P w) _ (callAny (.type "set") ⟨[.ref l], []⟩) _ _ s
  refine wpAny_pure ⟨Code.quiet_builtin _ (by decide +kernel), codeAny_builtin F.entry_type_call ?_⟩
  rw [Around.under_plain (weight_type_call_type "set" [.ref l] []) rfl]
  repeat (any_goals (first | assumption | wp_step))
  refine codeAny_mono (code_set_led1 (.ref l) (E := E) (Q₁ := fun r s1 => r = .ref s.heap.objs.size ∧ s1 = { s with heap := s.heap.push (noSet w) }) ⟨rfl, rfl⟩) fun r s1 hr => ?_
  match r, hr with
  | .error e, hr => exact hr
  | .ok (.ret _), ⟨e1, e2⟩ =>
    subst e1 e2
    have new : (s.heap.push (noSet w)).get? s.heap.objs.size = some (noSet w) := Heap.get?_push_size _ rfl
    have newT : Shared.TypeIs { s with heap := s.heap.push (noSet w) } (.ref s.heap.objs.size) "set" := ⟨_, new, rfl⟩
    have i0 := F.called_set.init.lookup
    have i1 := F.called_set.init.bind (.ref s.heap.objs.size)
    repeat (any_goals (first | assumption | wp_step))
    refine codeAny_mono (codeAny_call_builtin (R := wants (fun r s2 => r = .none ∧ ∃ G tk c, s2 = { s with heap := G, toks := tk } ∧ SetR w G s.heap.objs.size (fun j => decide (j ∈ ns)) c ∧ c ≤ ns.length ∧ ∀ b o, s.heap.get? b = some o → G.get? b = some o) E)
      F.called_set.init.plain F.entry_set_init (check_set_init_1 newT ?_)) fun r2 s2 hr2 => ?_
    · obtain ⟨⟨lc, ld, lt, ls⟩, lget, lcls, nn, ldat⟩ := isl
      obtain rfl : lc = .type "list" := lcls
      obtain rfl : lt = .seq its nn := ldat
      have under : l < s.heap.objs.size := Heap.lt_size lget
      have lget1 : (s.heap.push (noSet w)).get? l = some ⟨.type "list", ld, .seq its nn, ls⟩ := Heap.get?_push_of_some _ lget
      have lat : (s.heap.push (noSet w)).IsList l its := ⟨_, lget1, rfl, nn, rfl⟩
      have k1 := F.sub_list_set
      have k2 := F.sub_list_frozenset
      have k3 : (Value.type "list" == Value.type "dict") = false := by decide
      unfold Builtin.«set.__init__» noKeywords Builtin.Frozenset.updateFrom
      generalize hpi : pyIter = it_
      wp_walk
      subst hpi
      have calm3 : A.in1.in1.in1.handled = none := calm
      have next : (s.heap.push (noSet w)).objs.size = s.heap.objs.size + 1 := Heap.size_push ..
      have apart : l ≠ (s.heap.push (noSet w)).objs.size := fun z => absurd under (by rw [z, next]; exact Nat.not_lt.mpr (Nat.le_succ _))
      have away : s.heap.objs.size ∉ [(s.heap.push (noSet w)).objs.size, l] := fun z => by
        rcases List.mem_cons.mp z with z | z
        · rw [next] at z
          exact absurd z (Nat.ne_of_lt (Nat.lt_succ_self _))
        · exact absurd (List.mem_singleton.mp z).symm (Nat.ne_of_lt under)
      refine wpAny_pyIter_list lat (wpAny_bind (wpAny_runValue (set_update_ints ((Walks.list calm3 _ l apart its).toS) s.heap.objs.size away ns many small (fun i v e => ?_) (its.size - 0) 0 _ (by omega) (Nat.zero_le _) ⟨⟨_, Heap.get?_push_size _ rfl, rfl, rfl⟩, lat.push _⟩ ?_ fun s3 c moved cle sr => ?_)))
      · have hi : i < ns.length := by rw [← many]; exact (Array.getElem?_eq_some_iff.mp e).1
        obtain ⟨t, et⟩ := PyProof.Rows.IntsAre.int_at vals i v (by rw [Array.getElem?_toList]; exact e)
        refine ⟨ns[i], t, List.getElem?_eq_getElem hi, et.trans ?_⟩
        rw [List.getD_eq_getElem?_getD, List.getElem?_eq_getElem hi]
        rfl
      · exact ⟨0, Nat.le_refl 0, setR_new_at (Heap.get?_push_of_some _ new)⟩
      · obtain ⟨G, g3, d3, tk3, os3⟩ := s3
        obtain rfl : g3 = s.gens := moved.gens
        obtain rfl : d3 = s.drawn := moved.drawn
        obtain rfl : os3 = s.os := moved.os
        refine wpAny_pure (wpAny_pure ⟨rfl, G, tk3, c, rfl, sr, by rw [← many]; exact cle, fun b o e => moved.heap b o (fun z => ?_) (Heap.get?_push_of_some _ (Heap.get?_push_of_some _ e))⟩)
        have lo := Heap.lt_size e
        rcases List.mem_cons.mp z with z | z
        · exact absurd z (Nat.ne_of_lt lo)
        · have z2 := List.mem_singleton.mp z
          rw [next] at z2
          exact absurd z2 (Nat.ne_of_lt (Nat.lt_succ_of_lt lo))
    · match r2, hr2 with
      | .error e, hr2 => exact hr2
      | .ok (.ret _), ⟨z1, G, tk, c, z2, sr, cle, kp⟩ =>
        subst z1 z2
        repeat (any_goals (first | assumption | wp_step))
        exact fin _ _ _ sr cle kp
      | .ok .next, hr2 => exact hr2.elim
      | .ok .brk, hr2 => exact hr2.elim
      | .ok .cont, hr2 => exact hr2.elim
  | .ok .next, hr => exact hr.elim
  | .ok .brk, hr => exact hr.elim
  | .ok .cont, hr => exact hr.elim
end
section
variable {X : Cx}
/-- set(xs), xs a list or a tuple of whole numbers -/
def rSetI (K : PySem.W.Frag) (w : World) : List V → Hp → VK → Prop := fun xs H Q => ∃ (p : Addr) (ns : List Int), xs = [.ref p] ∧ (SqL K H p (ns.map V.int) ∨ SqT K H p (ns.map V.int)) ∧ ns.length < 64 ∧
  ∀ (a : Addr) (c : Nat), H a = none → c ≤ ns.length → Q (.ref a) (upd H a (SetO w a (fun j => decide (j ∈ ns)) c))
theorem cr_setI (hc : X.calm = true) : CallR X (.type "set") (rSetI X.K X.w) := by
  intro pins s σ H xs us Q I r h
  obtain ⟨p, ns, rfl, hs, h64, q⟩ := h
  have sb : ns.length + 1 < scanBound := by unfold scanBound; omega
  rw [Vals.ref1 r]
  rcases hs with hs | hs
  · obtain ⟨its, rv, ⟨o, n, ho, hcl, _, hd⟩, _⟩ := I.list hs
    exact set_list (its := its.toArray) (I.ok.hd hc) ⟨o, ho, hcl, n, hd⟩ (ints_of_vals rv) sb fun G tk c R hcn k => ⟨.ref _, upd H s.heap.objs.size (SetO X.w s.heap.objs.size (fun j => decide (j ∈ ns)) c), I.laid (t' := tk) k (Nat.le_refl _) (setO_new R), rfl, q _ c (I.hok.fresh (Nat.le_refl _)) hcn⟩
  · obtain ⟨its, rv, ht, _⟩ := I.tuple hs
    exact call_set_tupI ns (I.ok.hd hc) (show s.heap.IsTuple p its.toArray from ht) (ints_of_vals rv) sb fun G tk c R hcn k => ⟨.ref _, upd H s.heap.objs.size (SetO X.w s.heap.objs.size (fun j => decide (j ∈ ns)) c), I.laid (t' := tk) k (Nat.le_refl _) (setO_new R), rfl, q _ c (I.hok.fresh (Nat.le_refl _)) hcn⟩
end
section
variable {K : PySem.W.Frag} {w : World} {H : Hp} {Q : VK} {p a : Addr} {ns : List Int} {c : Nat}
theorem rd_setI (h : H p = some (.lst (ns.map V.int)) ∨ H p = some (.tup (ns.map V.int))) (l : ns.length < 64) (q : ∀ H2 a c, Same H H2 → H a = none → c ≤ ns.length → H2 a = some (SetO w a (fun j => decide (j ∈ ns)) c) → Q (.ref a) H2) : rSetI K w [.ref p] H Q :=
  ⟨p, ns, rfl, h.imp SqL.of SqT.of, l, fun a c na hc => q _ a c (fun b u e => by rw [upd_ne (ne_of_none e na)]; exact e) na hc upd_same⟩
end
end Rv
/-! which blocks matter -/
namespace Rv
open PySem PySem.Spec PyProof.Rows L2
theorem dp_ints2 {K : PySem.W.Frag} {H : Hp} {D : Addr} {es : List Int} (h : H D = some (.lst (es.map V.int))) : Dp K H (.ref D) (.list (es.map PyData.int)) := .lst (SqL.of h) (dp_ints es)
theorem sh_ints2 (es : List Int) : Sh 1 (.list (es.map PyData.int)) := Sh.list fun d hd => by
  obtain ⟨i, _, rfl⟩ := List.mem_map.mp hd
  exact Sh.int i
end Rv
/-! searches; what restarts from the top do -/
namespace Rv
open PySem PySem.Spec PyProof.Rows L2
section
variable {P : Type}
inductive Rch (nx : P → List P) (s : P) : P → Prop
  | refl : Rch nx s s
  | step {p q : P} (h : Rch nx s p) (m : q ∈ nx p) : Rch nx s q
/-- a search between two turns: what waits, what was met, how many were taken up -/
structure Sr (nx : P → List P) (s : P) (td seen : List P) (i : Nat) : Prop where
  nd : seen.Nodup
  st : s ∈ seen
  rc : ∀ p ∈ seen, Rch nx s p
  tds : ∀ p ∈ td, p ∈ seen
  cl : ∀ p ∈ seen, p ∈ td ∨ ∀ q ∈ nx p, q ∈ seen
  cnt : i + td.length = seen.length
/-- p was taken up, the first j of what follows were looked at -/
structure Pr (nx : P → List P) (s p : P) (td seen : List P) (i j : Nat) : Prop where
  nd : seen.Nodup
  st : s ∈ seen
  pin : p ∈ seen
  rc : ∀ p ∈ seen, Rch nx s p
  tds : ∀ p ∈ td, p ∈ seen
  cl : ∀ q ∈ seen, q ∈ td ∨ q = p ∨ ∀ r ∈ nx q, r ∈ seen
  done : ∀ (k : Nat) q, k < j → (nx p)[k]? = some q → q ∈ seen
  cnt : i + 1 + td.length = seen.length
variable {nx : P → List P} {s p q : P} {td seen : List P} {i j : Nat}
theorem Sr.all (S : Sr nx s [] seen i) (q : P) : q ∈ seen ↔ Rch nx s q := ⟨S.rc q, fun r => by
  induction r with
  | refl => exact S.st
  | step h m ih =>
    rcases S.cl _ ih with k | k
    · exact absurd k List.not_mem_nil
    · exact k _ m⟩
end
/-! from the top -/
section
variable {n : Nat} {ps : List (Int × Int)}
/-! by images -/
end
end Rv
/-! searches in the heap: what waits, tables of what was met -/
namespace Rv
open PySem PySem.Spec PyProof.Rows L2
section
variable {σ : L2.St} {H : Hp} {K : PySem.W.Frag} {Q : VK} {p : Addr} {xs : List V} {y : V} {D : Ends}
end
section
variable {H H' : Hp} {d b : Addr} {ls : List (List Int)} {es : List Int} {Q : VK} {R : Hp → Prop} {v : V}
end
/-! a table of places -/
def rowG (n k : Nat) (seen : List (Nat × Nat)) : List V := (List.range n).map fun b => V.bl (decide ((k, b) ∈ seen))
structure Grid (H : Hp) (g : Addr) (m n : Nat) (rws : List Addr) (seen : List (Nat × Nat)) : Prop where
  at_ : H g = some (.lst (rws.map V.ref))
  len : rws.length = m
  nd : rws.Nodup
  ng : g ∉ rws
  row : ∀ (k : Nat) r, rws[k]? = some r → H r = some (.lst (rowG n k seen))
section
variable {H H' : Hp} {g l : Addr} {m n k b : Nat} {rws : List Addr} {seen : List (Nat × Nat)}
end
/-! the least place that spoils -/
/-! how many come to a block -/
theorem eqv_intsL : ∀ (a b : List Int), PyData.eqv (.list (a.map PyData.int)) (.list (b.map PyData.int)) = decide (a = b)
  | [], [] => rfl
  | [], _ :: _ => rfl
  | _ :: _, [] => rfl
  | x :: r, y :: t => by
    have ih := eqv_intsL r t
    have e : PyData.eqv (.list ((x :: r).map PyData.int)) (.list ((y :: t).map PyData.int)) = (decide (x = y) && PyData.eqv (.list (r.map PyData.int)) (.list (t.map PyData.int))) := rfl
    rw [e, ih, Bool.eq_iff_iff, Bool.and_eq_true, decide_eq_true_eq, decide_eq_true_eq, decide_eq_true_eq, List.cons.injEq]
theorem rd_eqL {K : PySem.W.Frag} {H : Hp} {Q : VK} {p p2 : Addr} {xs ys : List Int} (h : H p = some (.lst (xs.map V.int))) (h2 : H p2 = some (.lst (ys.map V.int))) (q : Q (.bl (decide (xs = ys))) H) : rEqD K (.ref p) (.ref p2) H Q :=
  ⟨_, _, dp_ints2 h, dp_ints2 h2, (sh_ints2 _).shaped (by decide), (sh_ints2 _).shaped (by decide), by rw [eqv_intsL]; exact q⟩
end Rv
/-! late lines -/
namespace Rv
open PySem PySem.Spec PyProof.Rows L2
/-- the last of the first k lines that writes on b, or -1 -/
def lw (ps : List (Int × Int)) (b : Int) : Nat → Int
  | 0 => -1
  | k + 1 => match ps[k]? with
    | some p => if p.1 = b then (k : Int) else lw ps b k
    | none => lw ps b k
section
variable {n : Nat} {ps : List (Int × Int)}
/-! the same by images -/
end
end Rv
namespace Rv
open PySem PySem.Spec PyProof.Rows L2
/-! how many come to a block -/
section
variable {n k b : Nat} {ps : List (Int × Int)}
end
end Rv
/-! dicts whose keys are pairs of a number and a row of numbers -/
namespace Rv
open PySem PySem.Spec PyProof.Rows L2
section
variable {X : Cx} {pins : List (Addr × Obj)} {σ : L2.St} {H : Hp} {s : Shared} {a b : Addr} {xs : List NE} {k : NK} {A : Around} {E : Value → Shared → Prop} {Pg : Program} {wd : World}
/-! readings -/
end
section
variable {X : Cx} {o i e value : Expr} {pos pos' tpos : Pos} {td ty tv : TE} {P : Program} {w : World}
end
section
variable {σ : L2.St} {H H' : Hp} {Q : VK} {D : Ends} {P : Program} {w : World} {td ty tv : TE} {d b l : Addr} {ks : List NK} {k : NK} {v : V} {R : Hp → Prop} {o : HO}
end
end Rv
/-! a dict comprehension stored on its line; searches over places with images -/
namespace Rv
open PySem PySem.Spec PyProof.Rows L2
section
variable {X : Cx}
end
section
variable {H : Hp} {Q : VK} {p : Addr} {xs : List V} {y : V}
end
/-! places with images -/
section
variable {H H' : Hp} {as : List Addr} {ps : List (Nat × List Int)} {a : Addr} {p : Nat × List Int}
end
end Rv
namespace Rv
open PySem PySem.Spec PyProof.Rows L2
/-- the dict of the last writes -/
structure Lw (ps : List (Int × Int)) (i : Nat) (kvs : List (Key × V)) : Prop where
  len : kvs.length ≤ i
  val : ∀ b : Int, valV kvs (Sum.inl b) = if lw ps b i < 0 then none else some (.int (lw ps b i))
end Rv
/-! from an old mark -/
namespace Rv
open PySem PySem.Spec PyProof.Rows L2
/-- block b matters at position k -/
def Mt (n : Nat) (ps : List (Int × Int)) (k : Nat) (b : Int) : Prop := b ∈ fin (own n) (ps.drop k)
section
variable {n : Nat} {ps : List (Int × Int)}
/-! the same by images -/
end
/-- what mattered so far: each block with the least position -/
structure Mm (n : Nat) (ps : List (Int × Int)) (j : Nat) (kvs : List (Key × V)) : Prop where
  len : kvs.length ≤ j * 12
  some_ : ∀ (b : Int) v, valV kvs (Sum.inl b) = some v → ∃ k : Nat, v = .int k ∧ k < j ∧ Mt n ps k b ∧ ∀ k', k' < k → ¬ Mt n ps k' b
  none_ : ∀ b : Int, valV kvs (Sum.inl b) = none → ∀ k, k < j → ¬ Mt n ps k b
/-- the same while the blocks os that matter at i are gone through -/
structure Mi (n : Nat) (ps : List (Int × Int)) (i : Nat) (os : List Int) (j : Nat) (kvs : List (Key × V)) : Prop where
  len : kvs.length ≤ i * 12 + j
  some_ : ∀ (b : Int) v, valV kvs (Sum.inl b) = some v → (∃ k : Nat, v = .int k ∧ k < i ∧ Mt n ps k b ∧ ∀ k', k' < k → ¬ Mt n ps k' b) ∨ (v = .int i ∧ b ∈ os ∧ ∀ k, k < i → ¬ Mt n ps k b)
  none_ : ∀ b : Int, valV kvs (Sum.inl b) = none → (∀ k, k < i → ¬ Mt n ps k b) ∧ b ∉ os.take j
section
variable {n i j : Nat} {ps : List (Int × Int)} {os : List Int} {kvs : List (Key × V)}
end
/-- the tables of what matters, from position j on -/
structure Tb (H : Hp) (n : Nat) (ps : List (Int × Int)) (j : Nat) (ts : List Addr) : Prop where
  len : ts.length + j = ps.length + 1
  at_ : ∀ i, i + j ≤ ps.length → ∃ (a : Addr) (os : List Int), ts[i]? = some a ∧ H a = some (.lst (os.map V.int)) ∧ os.length + (j + i) ≤ 12 + ps.length ∧ ∀ x, x ∈ os ↔ Mt n ps (j + i) x
end Rv
/-! set comprehensions whose elements are whole numbers -/
namespace Rv
open PySem PySem.Spec PyProof.Rows L2 PpSet
section
variable {X : Cx}
variable {elt tg iter : Expr} {ifs : List Expr} {scope : Scope} {own : List (PySem.Str × Nat)} {pos : Pos} {wi : TI} {g : TG} {tt : TT} {te : TE} {w : World}
end
end Rv
/-! another box of draws; images that may be wrong; replacing -/
namespace Rv
open PySem PySem.Spec PyProof.Rows L2
/-! tuples put together -/
section
variable {H : Hp} {K : PySem.W.Frag} {Q : VK} {a b : Addr} {xs ys : List V} {lo hi : Option Int}
theorem rd_repT {k : Int} (h : H a = some (.tup xs)) (nx : xs ≠ []) (k2 : 2 ≤ k) (k3 : k ≤ 1000) (l : xs.length ≤ 1000) (q : NewL (.tup (List.replicate k.toNat xs).flatten) Q H) : rRepT K (.ref a) (.int k) H Q := ⟨a, k, xs, rfl, rfl, SqT.of h, nx, k2, k3, l, q⟩
theorem rd_slT (h : H a = some (.tup xs)) (no : ¬ (HT.sIx xs.length 0 lo = 0 ∧ HT.sIx xs.length xs.length hi = xs.length)) (q : NewL (.tup (cutV xs lo hi)) Q H) : rSlT K (.ref a) lo hi H Q := ⟨a, xs, rfl, SqT.of h, no, q⟩
theorem rd_sorted {ns : List Int} (h : H a = some (.lst (ns.map V.int))) (l : ns.length < 64) (q : ∀ (H2 : Hp) (p : Addr) (os : List Int), Same H H2 → H p = none → H2 p = some (.lst (os.map V.int)) → os.Perm ns → os.Pairwise (· ≤ ·) → Q (.ref p) H2) : rSorted K [.ref a] H Q :=
  ⟨a, ns, rfl, SqL.of h, l, fun os p pm pw np => q _ p os (fun c u e => by rw [upd_ne (ne_of_none e np)]; exact e) np upd_same pm pw⟩
end
/-! images that may be wrong -/
/-! anchors -/
def KeptB (es fs : List Int) (b : Nat) (x : Int) : Prop := es.getD b 0 = x ∧ fs.getD b 0 = x
instance (es fs : List Int) (b : Nat) (x : Int) : Decidable (KeptB es fs b x) := inferInstanceAs (Decidable (_ ∧ _))
/-- the least of the first blocks that is kept and holds x -/
def fk (es fs : List Int) (x : Int) : Nat → Int
  | 0 => -1
  | k + 1 => if 0 ≤ fk es fs x k then fk es fs x k else if KeptB es fs k x then (k : Int) else -1
section
variable {es fs : List Int} {x : Int}
/-- the dict of the kept ones -/
structure Kp (es fs : List Int) (i : Nat) (kvs : List (Key × V)) : Prop where
  len : kvs.length ≤ i
  val : ∀ x : Int, valV kvs (Sum.inl x) = if x < 0 ∨ fk es fs x i < 0 then none else some (.int (fk es fs x i))
end
/-! the lines -/
def chg (es fs : List Int) (n : Nat) : List Nat := (List.range n).filter fun b => !decide (es.getD b 0 = fs.getD b 0)
/-- the first m of the blocks that change have changed -/
structure Half (es fs hs : List Int) (m : Nat) : Prop where
  len : hs.length = fs.length
  at_ : ∀ b, b < fs.length → hs.getD b 0 = if b ∈ (chg es fs fs.length).take m then fs.getD b 0 else es.getD b 0
section
variable {es fs hs : List Int} {m : Nat}
end
end Rv
namespace Rv
open PySem PySem.Spec PyProof.Rows L2
section
variable {σ : L2.St} {H : Hp} {K : PySem.W.Frag} {p : Addr} {xs : List V} {QB : Bool → Hp → Prop} {Q : VK}
end
end Rv
namespace Rv
open PySem PySem.Spec PyProof.Rows L2
/-- // by a positive divisor of some length -/
def CDivV (_ j : Int) : Prop := 0 < j ∧ j ≤ 10 ^ 30
theorem op_fdivV {X : Cx} : OpR X (binaryOp .FloorDiv) (rI CDivV fun i j => .int (i.fdiv j)) := opI fun _ j _ _ _ _ _ hc q => by
  obtain ⟨h0, h1⟩ := hc
  refine floordiv_int (by omega) q (.inl (PyProof.noPylong_of_log2 ?_))
  have z : j.natAbs < 2 ^ 100 := by omega
  have y := (Nat.log2_lt (n := j.natAbs) (k := 100) (by omega)).mpr z
  omega
end Rv
/-! list(zip(a, b)) of two tuples: the pairs stand in the list, so each turn makes a new one -/
namespace Rv
open PySem PySem.Spec PyProof.Rows L2 RZ
section
variable {prog : Program} {w : World} {A : Around} {E : Value → Shared → Prop} {s : Shared}
end
section
variable {X : Cx} {pins : List (Addr × Obj)} {σ : L2.St} {A1 : Around} {a b q z TI TO i1 i2 : Addr} {xs ys : List V} {H0 : Hp} {Rs : Result → Shared → Prop}
end
section
variable {X : Cx}
end
end Rv
/-! t.count(k), min(t) of a tuple of whole numbers; xs.remove(k) that finds k; a tuple that is spread into a tuple or a call -/
namespace Rv
open PySem PySem.Spec PyProof.Rows L2
section
variable {X : Cx}
theorem min_fold : ∀ (xs : List Int) (x : Int), (xs.foldl (fun a y => if PySem.W.DatumOrd.lt y a = true then y else a) x ∈ x :: xs) ∧ ∀ y ∈ x :: xs, xs.foldl (fun a y => if PySem.W.DatumOrd.lt y a = true then y else a) x ≤ y := by
  intro xs
  induction xs with
  | nil => exact fun x => ⟨List.mem_cons_self .., fun y hy => by rw [List.mem_singleton.mp hy]; exact Int.le_refl _⟩
  | cons z r ih =>
    intro x
    rw [List.foldl_cons]
    have lt : PySem.W.DatumOrd.lt z x = decide (z < x) := rfl
    obtain ⟨h1, h2⟩ := ih (if PySem.W.DatumOrd.lt z x = true then z else x)
    generalize List.foldl (fun a y => if PySem.W.DatumOrd.lt y a = true then y else a) (if PySem.W.DatumOrd.lt z x = true then z else x) r = m at h1 h2
    rw [lt] at h1 h2
    by_cases c : z < x
    · rw [decide_eq_true c, if_pos rfl] at h1 h2
      refine ⟨List.mem_cons_of_mem _ h1, fun y hy => ?_⟩
      rcases List.mem_cons.mp hy with e | hy
      · have := h2 z (List.mem_cons_self ..)
        omega
      · exact h2 y hy
    · rw [decide_eq_false c, if_neg (by decide)] at h1 h2
      refine ⟨?_, fun y hy => ?_⟩
      · rcases List.mem_cons.mp h1 with e | e
        · rw [e]; exact List.mem_cons_self ..
        · exact List.mem_cons_of_mem _ (List.mem_cons_of_mem _ e)
      · rcases List.mem_cons.mp hy with e | hy
        · rw [e]; exact h2 x (List.mem_cons_self ..)
        · rcases List.mem_cons.mp hy with e | hy
          · have := h2 x (List.mem_cons_self ..)
            omega
          · exact h2 y (List.mem_cons_of_mem _ hy)
def rMinT : List V → Hp → VK → Prop := fun vs H Q => ∃ (a : Addr) (ns : List Int), vs = [V.ref a] ∧ H a = some (.tup (ns.map V.int)) ∧ 0 < ns.length ∧ ∀ m, m ∈ ns → (∀ y, y ∈ ns → m ≤ y) → Q (.int m) H
theorem cr_minT (hc : X.calm = true) (hu : X.A.units + 64 < cLine) : CallR X (.builtin "min") rMinT := by
  intro pins s σ H vs us Q I r h
  obtain ⟨a, ns, rfl, hs, hne, q⟩ := h
  obtain ⟨its, rv, tp, _⟩ := I.tuple (show SqT X.K H a _ from .of hs)
  rw [Vals.ref1 r]
  have hi := ints_of_vals rv
  cases ns with
  | nil => exact absurd hne (Nat.lt_irrefl 0)
  | cons x xs =>
    refine PySem.W.min_tuple_datum (I.ok.hd hc) (show s.heap.IsTuple a its.toArray from tp) (x := x) (xs := xs) (by rw [List.toList_toArray]; exact PySem.W.HoldAll.of_ints hi) (by show X.A.units + 1 + 0 < cLine; omega) fun i v h' tk hv hh hk => ?_
    obtain ⟨h1, h2⟩ := min_fold xs x
    obtain ⟨as, hr⟩ := hh
    have ev : ∃ t, v = .int (PySem.W.minOf x xs) t := by
      generalize hg : (PySem.W.Datum.toD (PySem.W.minOf x xs) : PyData) = d at hr
      have hg' : PyData.int (PySem.W.minOf x xs) = d := hg
      subst hg'
      cases hr with
      | int n t => exact ⟨t, rfl⟩
    obtain ⟨t, rfl⟩ := ev
    exact ⟨.int _, H, I.kept hk, ⟨t, rfl⟩, q _ h1 h2⟩
end
end Rv
/-! rings of a goal, the log over a spare block, and how the rest is spread -/
namespace RL
/-- different numbers below n are at most n -/
theorem nd_len : ∀ (n : Nat) (p : List Nat), p.Nodup → (∀ x ∈ p, x < n) → p.length ≤ n := by
  intro n
  induction n with
  | zero =>
    intro p _ h
    cases p with
    | nil => exact Nat.le_refl _
    | cons x r => exact absurd (h x (List.mem_cons_self ..)) (Nat.not_lt_zero _)
  | succ n ih =>
    intro p nd h
    by_cases k : n ∈ p
    · have e := List.length_erase_of_mem k
      have := ih (p.erase n) (nd.erase n) fun x hx => by
        have h1 := h x (List.mem_of_mem_erase hx)
        have h2 : x ≠ n := fun z => by rw [z] at hx; exact absurd hx (nd.not_mem_erase)
        omega
      have : 0 < p.length := List.length_pos_of_mem k
      omega
    · have := ih p nd fun x hx => by
        have h1 := h x hx
        have h2 : x ≠ n := fun z => k (z ▸ hx)
        omega
      omega
theorem nd_inj {p : List Nat} (nd : p.Nodup) {i j x : Nat} (hi : p[i]? = some x) (hj : p[j]? = some x) : i = j := by
  obtain ⟨l1, e1⟩ := List.getElem?_eq_some_iff.mp hi
  obtain ⟨l2, e2⟩ := List.getElem?_eq_some_iff.mp hj
  have pw := List.pairwise_iff_getElem.mp nd
  rcases Nat.lt_trichotomy i j with h | h | h
  · exact absurd (e1.trans e2.symm) (pw i j l1 l2 h)
  · exact h
  · exact absurd (e2.trans e1.symm) (pw j i l2 l1 h)
variable {g : Nat → Nat} {n : Nat}
def fol (g : Nat → Nat) : Nat → List Nat → List Nat
  | 0, p => p
  | k + 1, p => if g (p.getLastD 0) ∈ p then p else fol g k (p ++ [g (p.getLastD 0)])
structure Pth (g : Nat → Nat) (n b : Nat) (p : List Nat) : Prop where
  hd : p[0]? = some b
  nd : p.Nodup
  lt : ∀ x ∈ p, x < n
  st : ∀ i x y, p[i]? = some x → p[i + 1]? = some y → y = g x
theorem Pth.start {b : Nat} (h : b < n) : Pth g n b [b] := ⟨rfl, by simp, fun x hx => by rw [List.mem_singleton.mp hx]; exact h, fun i x y _ h2 => by simp at h2⟩
theorem Pth.ne {b : Nat} {p : List Nat} (P : Pth g n b p) : p ≠ [] := fun e => by have := P.hd; rw [e] at this; cases this
theorem last_at {p : List Nat} (h : p ≠ []) : p[p.length - 1]? = some (p.getLastD 0) := by
  rw [List.getLastD_eq_getLast?, List.getLast?_eq_getElem?]
  cases p with
  | nil => exact absurd rfl h
  | cons x r =>
    rw [List.getElem?_eq_getElem (by rw [List.length_cons]; omega)]
    rfl
theorem last_mem {p : List Nat} (h : p ≠ []) : p.getLastD 0 ∈ p := List.mem_of_getElem? (last_at h)
theorem Pth.next {b : Nat} {p : List Nat} (P : Pth g n b p) (h : g (p.getLastD 0) ∉ p) (hl : g (p.getLastD 0) < n) : Pth g n b (p ++ [g (p.getLastD 0)]) := by
  have hp : 0 < p.length := List.length_pos_iff.mpr P.ne
  refine ⟨by rw [List.getElem?_append_left hp]; exact P.hd, ?_, fun x hx => ?_, fun i x y h1 h2 => ?_⟩
  · rw [List.nodup_append]
    exact ⟨P.nd, by simp, fun a ha b hb => by rw [List.mem_singleton.mp hb]; exact fun z => h (z ▸ ha)⟩
  · rcases List.mem_append.mp hx with k | k
    · exact P.lt x k
    · rw [List.mem_singleton.mp k]; exact hl
  · have h3 := (List.getElem?_eq_some_iff.mp h2).1
    rw [List.length_append, List.length_singleton] at h3
    rw [List.getElem?_append_left (by omega)] at h1
    by_cases k : i + 1 < p.length
    · rw [List.getElem?_append_left k] at h2
      exact P.st i x y h1 h2
    · have e : i = p.length - 1 := by omega
      rw [List.getElem?_append_right (by omega), show i + 1 - p.length = 0 by omega] at h2
      rw [e, last_at P.ne] at h1
      cases h1
      cases h2
      rfl
theorem Pth.len {b : Nat} {p : List Nat} (P : Pth g n b p) : p.length ≤ n := nd_len n p P.nd P.lt
theorem fol_stop {p : List Nat} (h : g (p.getLastD 0) ∈ p) : ∀ k, fol g k p = p
  | 0 => rfl
  | k + 1 => if_pos h
theorem fol_step {p : List Nat} (h : g (p.getLastD 0) ∉ p) (k : Nat) : fol g (k + 1) p = fol g k (p ++ [g (p.getLastD 0)]) := if_neg h
/-- the way from a block ends where it comes back to itself -/
theorem fol_end (hg : ∀ b, b < n → g b < n) {b : Nat} : ∀ k p, Pth g n b p → p.length + k = n + 1 → Pth g n b (fol g k p) ∧ g ((fol g k p).getLastD 0) ∈ fol g k p := by
  intro k
  induction k with
  | zero =>
    intro p P hl
    have := P.len
    omega
  | succ k ih =>
    intro p P hl
    by_cases h : g (p.getLastD 0) ∈ p
    · rw [fol_stop h]; exact ⟨P, h⟩
    · rw [fol_step h]
      exact ih _ (P.next h (hg _ (P.lt _ (last_mem P.ne)))) (by rw [List.length_append, List.length_singleton]; omega)
def F (g : Nat → Nat) (n b : Nat) : List Nat := fol g n [b]
theorem F_end (hg : ∀ b, b < n → g b < n) {b : Nat} (hb : b < n) : Pth g n b (F g n b) ∧ g ((F g n b).getLastD 0) ∈ F g n b := fol_end hg n [b] (.start hb) (by rw [List.length_singleton]; omega)
def IsR (g : Nat → Nat) (p : List Nat) : Prop := 1 < p.length ∧ g (p.getLastD 0) = p.headD 0 ∧ ∀ x ∈ p, p.headD 0 ≤ x
instance {g : Nat → Nat} {p : List Nat} : Decidable (IsR g p) := by unfold IsR; exact inferInstance
theorem Pth.headD {b : Nat} {p : List Nat} (P : Pth g n b p) : p.headD 0 = b := by
  have h := P.hd
  cases p with
  | nil => cases h
  | cons x r => exact Option.some.inj h
/-! counts -/
/-! the goal -/
structure GOk (gs : List Int) : Prop where
  l1 : 1 ≤ gs.length
  l12 : gs.length ≤ 12
  en : ∀ e ∈ gs, 0 ≤ e ∧ e < gs.length
def gn (gs : List Int) (b : Nat) : Nat := (gs.getD b 0).toNat
variable {gs : List Int}
theorem GOk.at (G : GOk gs) {b : Nat} (h : b < gs.length) : gs[b]? = some (gn gs b : Int) ∧ gn gs b < gs.length := by
  have e : gs[b]? = some gs[b] := List.getElem?_eq_getElem h
  have h1 := G.en _ (List.getElem_mem h)
  have h2 : gs.getD b 0 = gs[b] := by rw [List.getD_eq_getElem?_getD, e]; rfl
  unfold gn
  rw [h2, e]
  exact ⟨by rw [Int.toNat_of_nonneg h1.1], by omega⟩
def One (gs : List Int) (p : List Nat) : Prop := ∀ b ∈ p, gs.count (b : Int) = 1
instance {gs : List Int} {p : List Nat} : Decidable (One gs p) := by unfold One; exact inferInstance
def ways (gs : List Int) (i : Nat) : List (List Nat) := (List.range i).map (F (gn gs) gs.length)
def rgs (gs : List Int) (i : Nat) : List (List Nat) := (ways gs i).filter fun p => decide (IsR (gn gs) p)
def clo (gs : List Int) (i : Nat) : List (List Nat) := (rgs gs i).filter fun p => decide (One gs p)
abbrev clos (gs : List Int) : List (List Nat) := clo gs gs.length
abbrev inr (gs : List Int) : List Nat := (clos gs).flatten
def mov (gs : List Int) (i : Nat) : List Nat := (List.range i).filter fun b => decide (gn gs b ≠ b)
def rst (gs : List Int) : List Nat := (mov gs gs.length).filter fun b => decide (b ∉ inr gs)
/-! what a log of pairs (target, source) does -/
def ap (c : Nat → Nat) (q : Nat × Nat) : Nat → Nat := fun b => if b = q.1 then c q.2 else c b
def run (c : Nat → Nat) (qs : List (Nat × Nat)) : Nat → Nat := qs.foldl ap c
/-- the pairs of a way, its end from s -/
def tp : Nat → List Nat → Nat → List (Nat × Nat)
  | a, [], s => [(a, s)]
  | a, x :: r, s => (a, x) :: tp x r s
def VP (n : Nat) (q : Nat × Nat) : Prop := q.1 < n ∧ q.2 < n ∧ q.1 ≠ q.2
/-! the rest is spread -/
def rows0 (gs : List Int) (s : Nat) : List (Nat × Nat) := (clos gs).flatMap fun p => tp s p s
def c0 (gs : List Int) (s : Nat) : Nat → Nat := run id (rows0 gs s)
structure Sp (gs : List Int) (s : Nat) (W : List Nat) (h : Nat → Nat) (T : List (Nat × Nat)) : Prop where
  nd : W.Nodup
  sub : ∀ b ∈ W, b ∈ rst gs
  don : ∀ b ∈ rst gs, b ∉ W → run (c0 gs s) T b = gn gs b
  oth : ∀ b, b < gs.length → b ∉ rst gs → run (c0 gs s) T b = gn gs b
  hol : ∀ b ∈ W, run (c0 gs s) T (h (gn gs b)) = gn gs b
  hom : ∀ v, v < gs.length → h v = v ∨ (h v ∈ rst gs ∧ h v ∉ W)
  prc : ∀ b ∈ rst gs, b ∉ W → h (gn gs b) ∈ rst gs ∧ h (gn gs b) ∉ W
  len : T.length + W.length = (rst gs).length
  val : ∀ q ∈ T, VP gs.length q
end RL
/-! own error classes without fields; readings of the steps of Nw and Nx -/
namespace Rv
open PySem PySem.Spec PyProof.Rows L2
abbrev vBase : List Value := [.type "ValueError", .type "Exception", .type "BaseException", .type "object"]
/-- an error class without a maker of its own -/
structure Err0 (K : PySem.W.Frag) (mg : Str → Option Value) (C : Addr) (x : Str) : Prop where
  gC : mg x = some (.ref C)
  q : PySem.W.excIn K C vBase "ValueError.__new__" = true
  kC : PySem.W.keepIn K (.ref C) = true
  bC : PySem.W.subIn K (.ref C) (.type "BaseException") = some true
  tC : PySem.W.typeIn K (.ref C) = some (.type "type")
  ec : ExcC K C
  icl : PySem.W.isClsIn K C = true
section
variable {X : Cx} {C : Addr} {bmB : List Value} {B newId initId : String}
theorem pmk_own0 {x : Str} {p pos : Pos} (F : ExcBaseFacts B newId initId bmB) (q : PySem.W.excIn X.K C bmB newId = true) (gC : X.mg x = some (.ref C)) (kC : PySem.W.keepIn X.K (.ref C) = true) (r : Raises X (.ref C)) (hg : Gl X x)
    (hdb : (x == ("__debug__" : Str)) = false := by decide) : PMk X (.Call (.Name x p) [] [] pos) (fun _ H Q => Q (.ref C) none H) := by
  intro pins s σ H Q I h
  refine wpAny_Call_Name_kw (ld_glob I hg gC (PySem.W.callWith_K0 I.kIn kC ?_) hdb)
  show wpAny _ _ (call (.ref C) []) _ _ _
  obtain ⟨bm, N, nm, qn, bs, hdct, sn, sub, ab, col, dd, k0, k1, k2, k3, k5, mN, hC, hN, hni, T⟩ := exc_obj I.kIn q
  refine wpAny_call_exc_subT F T hC hN hni (fun h' e hm => ?_) (by show 0 ≤ sizeLine; exact Nat.zero_le _)
  exact mk_of I hm r h (I.hok.gone hm.new)
/-- isinstance of the exception that the suite holds, of an own class, without a dict -/
def rIsX0 (K : PySem.W.Frag) (D a : Addr) (cls : Value) (d : Option Addr) : List V → Hp → VK → Prop := fun xs H Q => ∃ (c : V) (cv : Value) (b : Bool), xs = [.ref a, c] ∧ (∀ u, RelV c u → u = cv) ∧ PySem.W.kitOne K (.ref D) cv = some b ∧ cls = .ref D ∧ d = none ∧ Q (.bl b) H
theorem call_isX0 {X : Cx} {a D : Addr} {oe : Obj} {cls : Value} {d : Option Addr} {pn : List (Addr × Obj)} (C : ExcC X.K D) (hz : Zc cls d oe) (hf : ∃ vs, oe.data = .fields vs) :
    CallR (X.suite a ((a, oe) :: pn)) (.builtin "isinstance") (rIsX0 X.K D a cls d) := by
  intro pins s σ H xs us Q I r h
  obtain ⟨c, cv, b, rfl, hcv, e, rfl, rfl, q⟩ := h
  exact call_isE C hz hf pins s σ H _ us Q I r ⟨c, cv, b, rfl, hcv, e, q⟩
end
section
variable {X : Cx} {K : PySem.W.Frag} {o e : Expr} {to te : TE} {apos cpos : Pos}
/-- a tuple of whole numbers whose object has no dict -/
def GT (H : Hp) (a : Addr) (gs : List Int) : Prop := ∃ o : Obj, H a = some (.frz o (.tup (gs.map V.int))) ∧ o.dict = none
theorem GT.sq {H : Hp} {a : Addr} {gs : List Int} (g : GT H a gs) : SqT K H a (gs.map V.int) := by
  obtain ⟨o, h, _⟩ := g
  exact .inl (.inr ⟨o, h⟩)
theorem GT.same {H H' : Hp} {a : Addr} {gs : List Int} (g : GT H a gs) (S : Same H H') : GT H' a gs := by
  obtain ⟨o, h, d⟩ := g
  exact ⟨o, S _ _ h, d⟩
end
/-- tuple(list): the object is known -/
def rTupF (K : PySem.W.Frag) : List V → Hp → VK → Prop := fun xs H Q => ∃ (p : Addr) (ns : List Int), xs = [.ref p] ∧ SqL K H p (ns.map V.int) ∧ ∀ l (o : Obj), H l = none → o.dict = none → Q (.ref l) (upd H l (.frz o (.tup (ns.map V.int))))
theorem call_tupF {X : Cx} : CallR X (.type "tuple") (rTupF X.K) := by
  intro pins s σ H xs us Q I r h
  obtain ⟨p, ns, rfl, hq, q⟩ := h
  rw [Vals.ref1 r]
  obtain ⟨its, r', pl, hz⟩ := I.list hq
  have hlen := r'.length
  refine call_tuple_list pl.isList (fun h' kp => ?_) (by simp only [List.size_toArray] <;> omega)
  have I1 : Inv X pins σ H { s with heap := h' } := I.kept (t' := s.toks) kp
  have I2 := I1.laid (t' := s.toks) (h' := h'.push { cls := .type "tuple", data := .seq its.toArray }) (a := h'.objs.size) (o := .frz { cls := .type "tuple", data := .seq its.toArray } (.tup (ns.map V.int))) (fun b o e => Heap.get?_push_of_some _ e) (Nat.le_refl _)
    (show ObjOk X.prog X.w _ _ _ (.frz { cls := .type "tuple", data := .seq its.toArray } (.tup (ns.map V.int))) from ⟨Heap.get?_push_size _ rfl, hz, its, r', IsTup.new _ _⟩)
  exact ⟨.ref h'.objs.size, _, I2, rfl, q _ _ (I1.hok.fresh (Nat.le_refl _)) rfl⟩
def rIsG : List V → Hp → VK → Prop := fun vs H Q => ∃ (a : Addr) (gs : List Int), vs = [.ref a, .ty "tuple"] ∧ GT H a gs ∧ Q (.bl true) H
theorem call_isG {X : Cx} : CallR X (.builtin "isinstance") rIsG := by
  intro pins s σ H xs us Q I r h
  obtain ⟨a, gs, rfl, ⟨o, ha, hd⟩, q⟩ := h
  cases r with
  | cons rx rr =>
    cases rr with
    | cons rt rr =>
      cases rr
      cases rx
      cases rt
      obtain ⟨h1, _, its, rv, o2, h2, h3, n2, h4⟩ := (show ObjOk X.prog X.w H s.heap a (.frz o (.tup (gs.map V.int))) from I.hok a _ ha)
      exact PySem.W.kia_one PySem.W.kitx_tuple I.kIn ⟨o2, h2, h3⟩ (kit_ty (K := X.K) (show kitB "tuple" "tuple" = some true by decide +kernel)) (fun z => nomatch z) fun tk => ⟨.bl true, H, I.kept (t' := tk) fun _ _ z => z, rfl, q⟩
theorem feed_tupG {P : Program} {w : World} {K : PySem.W.Frag} (it a : Addr) (o : Obj) (xs : List V) :
    Feed P w K it xs.length (fun H => H a = some (.frz o (.tup xs))) (fun i => xs[i]?) (fun i h => h.IsTupleIter it a i) where
  cell := fun i h q => by
    obtain ⟨ob, e1, e2, e3⟩ := q
    refine ⟨ob, e1, fun v z => ?_⟩
    rw [e3] at z
    cases z
  stay := fun i h1 h2 q k => by
    obtain ⟨ob, e1, e2⟩ := q
    exact ⟨ob, k ob e1, e2⟩
  feed := fun X hP hw hK hc pins σ H s I hg hn => by
    obtain ⟨its, rv, hT, _⟩ := I.tuple (show SqT X.K H a xs from .inl (.inr ⟨o, hg⟩))
    have hl : its.toArray.size = xs.length := by
      rw [List.size_toArray]
      exact rv.length.symm
    have nai : a ≠ it := ne_of_none hg hn
    have D := Draws.tuple (prog := X.prog) (w := X.w) (A := X.A.in1) (show X.A.in1.handled = none from I.ok.hd hc) it a nai its.toArray
    rw [hl] at D
    refine ⟨[it, a], _, _, D, fun _ _ q => q.1, fun _ q => ⟨q, hT⟩, fun i u q => ?_, fun b hb hbn hm => ?_⟩
    · have q2 : its[i]? = some u := by simpa using q
      have hi : i < xs.length := by
        have := (List.getElem?_eq_some_iff.mp q2).1
        rw [rv.length]
        exact this
      obtain ⟨u', e1, r1⟩ := rv.get (List.getElem?_eq_getElem hi)
      rw [q2] at e1
      cases e1
      exact ⟨xs[i], r1, List.getElem?_eq_getElem hi⟩
    · rcases List.mem_cons.mp hm with z | z
      · exact hb z
      · have z2 : b = a := by simpa using z
        rw [z2, hg] at hbn
        cases hbn
section
variable {K : PySem.W.Frag} {σ : L2.St} {H : Hp} {Q : VK} {p : Addr} {gs : List Int} {R : It → Hp → Prop}
theorem rd_isG (g : GT H p gs) (q : Q (.bl true) H) : rIsG [.ref p, .ty "tuple"] H Q := ⟨p, gs, rfl, g, q⟩
theorem rd_tupF (h : H p = some (.lst (gs.map V.int))) (q : ∀ H2 l, Same H H2 → H l = none → GT H2 l gs → Q (.ref l) H2) : rTupF K [.ref p] H Q :=
  ⟨p, gs, rfl, .of h, fun l o nl d => q _ l (same_new (Same.refl _) nl) nl ⟨o, upd_same, d⟩⟩
end
section
variable {K : PySem.W.Frag} {σ : L2.St} {H : Hp} {Q : VK}
theorem rd_minT {a : Addr} {ns : List Int} (h : H a = some (.tup (ns.map V.int))) (l : 0 < ns.length) (q : ∀ m, m ∈ ns → (∀ y, y ∈ ns → m ≤ y) → Q (.int m) H) : rMinT [.ref a] H Q := ⟨a, ns, rfl, h, l, q⟩
end
open RL
def niz (l : List Nat) : List Int := l.map fun b : Nat => (b : Int)
def nvs (l : List Nat) : List V := (niz l).map V.int
theorem niz_len (l : List Nat) : (niz l).length = l.length := List.length_map ..
theorem nvs_len (l : List Nat) : (nvs l).length = l.length := by unfold nvs; rw [List.length_map, niz_len]
theorem mem_niz {b : Nat} {l : List Nat} : (b : Int) ∈ niz l ↔ b ∈ l := by
  unfold niz
  rw [List.mem_map]
  exact ⟨fun ⟨x, hx, e⟩ => (Int.ofNat.inj e) ▸ hx, fun h => ⟨b, h, rfl⟩⟩
theorem niz_of {k : Int} {l : List Nat} (h : k ∈ niz l) : ∃ b : Nat, k = (b : Int) ∧ b ∈ l := by
  obtain ⟨b, hb, e⟩ := List.mem_map.mp h
  exact ⟨b, e.symm, hb⟩
theorem nvs_app (a b : List Nat) : nvs (a ++ b) = nvs a ++ nvs b := by unfold nvs niz; rw [List.map_append, List.map_append]
theorem nvs_get {l : List Nat} {i b : Nat} (h : l[i]? = some b) : (nvs l)[i]? = some (V.int (b : Int)) := by unfold nvs niz; rw [List.getElem?_map, List.getElem?_map, h]; rfl
theorem nvs_atI {l : List Nat} {i b : Nat} (h : l[i]? = some b) : atI (nvs l) (i : Int) = some (V.int (b : Int)) := atI_nat (nvs_get h)
theorem nvs_last {l : List Nat} (h : l ≠ []) : atI (nvs l) (-1) = some (V.int ((l.getLastD 0 : Nat) : Int)) := by
  have hl : 0 < l.length := List.length_pos_iff.mpr h
  have e := nvs_get (last_at h)
  have hn := nvs_len l
  unfold atI ixN
  rw [hn, if_neg (by decide), if_pos (by omega)]
  show (nvs l)[((-1 : Int) + ((l.length : Nat) : Int)).toNat]? = _
  rw [show ((-1 : Int) + ((l.length : Nat) : Int)).toNat = l.length - 1 by omega]
  exact e
theorem nvs_in {b : Nat} {l : List Nat} : inV (V.int (b : Int)) (nvs l) = decide (b ∈ l) := by
  unfold nvs
  rw [inV_ints]
  by_cases h : b ∈ l
  · rw [decide_eq_true h, decide_eq_true (mem_niz.mpr h)]
  · rw [decide_eq_false h, decide_eq_false (fun z => h (mem_niz.mp z))]
theorem nvs_flat (l : List Nat) : (nvs l).all flatV = true := by
  unfold nvs
  rw [List.all_eq_true]
  intro x hx
  obtain ⟨k, _, rfl⟩ := List.mem_map.mp hx
  rfl
theorem ints_flat (l : List Int) : (l.map V.int).all flatV = true := by
  rw [List.all_eq_true]
  intro x hx
  obtain ⟨k, _, rfl⟩ := List.mem_map.mp hx
  rfl
/-- rows of block numbers -/
abbrev NRows (H : Hp) (bs : List Addr) (ps : List (List Nat)) : Prop := TupsAt H bs (ps.map nvs)
theorem NRows.len {H : Hp} {bs : List Addr} {ps : List (List Nat)} (t : NRows H bs ps) : bs.length = ps.length := by rw [t.1, List.length_map]
theorem NRows.kt {H H' : Hp} {bs : List Addr} {ps : List (List Nat)} (t : NRows H bs ps) (k : Kt H H') : NRows H' bs ps := TupsAt.kt k t
theorem NRows.same {H H' : Hp} {bs : List Addr} {ps : List (List Nat)} (t : NRows H bs ps) (S : Same H H') : NRows H' bs ps := TupsAt.same S t
theorem NRows.snoc {H : Hp} {bs : List Addr} {ps : List (List Nat)} {a : Addr} {p : List Nat} (t : NRows H bs ps) (h : H a = some (.tup (nvs p))) : NRows H (bs ++ [a]) (ps ++ [p]) := by
  unfold NRows
  rw [List.map_append]
  exact TupsAt.app t h
theorem NRows.at {H : Hp} {bs : List Addr} {ps : List (List Nat)} (t : NRows H bs ps) {i : Nat} {p : List Nat} (h : ps[i]? = some p) : ∃ a, bs[i]? = some a ∧ H a = some (.tup (nvs p)) := t.2 i _ (by rw [List.getElem?_map, h]; rfl)
theorem rd_ninT {K : PySem.W.Frag} {H : Hp} {Q : VK} {p : Addr} {xs : List V} {x : V} (h : H p = some (.tup xs)) (fx : flatV x = true) (fs : xs.all flatV = true) (q : Q (.bl (!inV x xs)) H) : rIn K true x (.ref p) H Q := ⟨p, xs, rfl, .inr (SqT.of h), fx, fs, q⟩
theorem niz_get {W : List Nat} {j t : Nat} (h : W[j]? = some t) : (niz W)[j]? = some (t : Int) := by unfold niz; rw [List.getElem?_map, h]; rfl
/-! a comprehension with two clauses over a list of tuples -/
end Rv
/-! no log of copies to a goal is shorter than the blocks that change and the closed rings together (for k34) -/
namespace RL
variable {gs : List Int}
end RL
/-! {t: v}, t a tuple -/
namespace Rv
open PySem PySem.Spec PyProof.Rows L2
section
variable {X : Cx} {k v : Expr} {tk tv : TE} {pos : Pos}
end
end Rv
/-! the search by breadth of k34: the least number of copies to each image -/
namespace RL
def Reach (n k : Nat) (im : List Nat) : Prop := ∃ qs : List (Nat × Nat), qs.length = k ∧ (∀ q ∈ qs, q.1 < n ∧ q.2 < n) ∧ im = (List.range n).map (run id qs)
theorem Reach.len {n k : Nat} {im : List Nat} (h : Reach n k im) : im.length = n := by
  obtain ⟨_, _, _, e⟩ := h
  rw [e, List.length_map, List.length_range]
/-! the least number of a goal -/
end RL
/-! a tuple that is known to have no dict as a key -/
namespace Rv
open PySem PySem.Spec PyProof.Rows L2
section
variable {X : Cx} {i o : Expr} {ty td : TE} {pos : Pos}
end
/-! t + u, empty ones too -/
def rCat3 (K : PySem.W.Frag) : R2 := fun x y H Q => ∃ (a b : Addr) (xs ys : List V), x = .ref a ∧ y = .ref b ∧ SqT K H a xs ∧ SqT K H b ys ∧ xs.length + ys.length ≤ sizeLine ∧
  (xs = [] → Q (.ref b) H) ∧ (xs ≠ [] → ys = [] → Q (.ref a) H) ∧ (xs ≠ [] → ys ≠ [] → ∀ p, H p = none → Q (.ref p) (upd H p (.tup (xs ++ ys))))
theorem op_cat3 {X : Cx} : OpR X (binaryOp .Add) (rCat3 X.K) := by
  intro pins s σ H x y v u Q I rx ry h
  obtain ⟨a, b, xs, ys, rfl, rfl, ha, hb, hz, q0, q1, q2⟩ := h
  by_cases ne : xs = []
  · subst ne
    cases rx
    cases ry
    obtain ⟨its, r1, p1, _⟩ := I.tuple ha
    obtain ⟨its2, r2, p2, _⟩ := I.tuple hb
    cases r1
    obtain ⟨⟨cls, dd, data, sl⟩, ho, hc, n, hd⟩ := id p1
    obtain ⟨⟨cls2, dd2, data2, sl2⟩, ho2, hc2, n2, hd2⟩ := id p2
    simp only at hc hd hc2 hd2
    subst hc hd hc2 hd2
    exact concat_meets ⟨_, ho, rfl⟩ ⟨_, ho2, rfl⟩ noFill_tuple_add seq_tuple_add PySem.F.slot_tuple_add PySem.F.entry_tuple_add (PySem.F.args_tuple_add_2 _ _) (tuple_addW0 a b _ _ n n2 dd dd2 sl sl2 rfl) ⟨ho, ho2, ⟨.ref b, H, I, rfl, q0 rfl⟩⟩
  · exact op_catT pins s σ H _ _ v u Q I rx ry ⟨a, b, xs, ys, rfl, rfl, ha, hb, ne, hz, fun e => q1 ne e, fun e => q2 ne e⟩
end Rv
/-! the table of k34: images and numbers -/
namespace Rv
open PySem PySem.Spec PyProof.Rows L2 RL
end Rv
/-! the mathematics of k36: steps between images -/
namespace RS
open RL
/-! copies -/
/-! logs -/
/-! all images -/
end RS
/-! for k36: dicts of images, list(d), zip of two tuples, rows by two clauses -/
namespace Rv
open PySem PySem.Spec PyProof.Rows L2 RL RS
section
variable {H H' : Hp} {d b l : Addr} {ks : List (List Nat)} {x : List Nat} {Q : VK} {R : Hp → Prop} {v : V} {o : HO}
/-! list(d) -/
end
/-! zip of two tuples -/
section
variable {K : PySem.W.Frag} {σ : L2.St} {H : Hp} {a b : Addr} {xs ys : List V} {R : It → Hp → Prop}
def ZpA (K : PySem.W.Frag) (R : It → Hp → Prop) (vs : List V) (H1 : Hp) : Prop := ∃ a b xs ys, vs = [.ref a, .ref b] ∧ ((SqL K H1 a xs ∧ SqL K H1 b ys ∧ R (Itz K a b) H1) ∨ (SqT K H1 a xs ∧ SqT K H1 b ys ∧ R (RZ.ItzT K a b) H1))
theorem pi_zpA {X : Cx} {e e2 : Expr} {ta : TA} {p pos tpos : Pos} {elts : List Expr} {kk : Nat} (hK : X.K = K) (hg : Gl X "zip") (hm : X.mg "zip" = none) (ha : PA X [e, e2] ta)
    (hs : starEach [e, e2] X.env = (false, eval e X.env) :: starEach [e2] X.env := by rfl) (hpl : (backTo pos (starEach [e2] X.env)).any (·.1) = false := by rfl) :
    PI X (.Tuple elts kk tpos) (.Call (.Name "zip" p) [e, e2] [] pos) (RZ.iZipA K ta) := by
  subst hK
  exact RZ.pi_zipA hg hm ha hs hpl
theorem rd_iZpA {ta : TA} (q : ta σ H fun vs H1 => ZpA K R vs H1) : RZ.iZipA K ta σ H R := q
theorem walk_zipT {n : Nat} (hn : n = min xs.length ys.length) : Walk (RZ.ItzT K a b) n (fun H => SqT K H a xs ∧ SqT K H b ys) (YPair (fun i => xs[i]?) (fun i => ys[i]?)) := by
  subst hn
  refine ⟨fun i _ hi q => ?_, fun _ q => ⟨xs, ys, q.1, q.2, by omega⟩, fun i H v H' _ q y => ?_⟩
  · have h1 : i < xs.length := by omega
    have h2 : i < ys.length := by omega
    exact ⟨xs, ys, xs[i], ys[i], q.1, q.2, by simp [h1], by simp [h2]⟩
  · obtain ⟨T, x, y, h1, h2, h3, h4, h5⟩ := y
    exact ⟨T, x, y, h1, h2, h3, h4 _ q.1, h5 _ q.2⟩
end
/-! a comprehension over rows and numbers -/
end Rv
/-! for k36: equality of images, common places, filters, what a helper leaves -/
namespace Rv
open PySem PySem.Spec PyProof.Rows L2 RL RS
/-! common places -/
/-! filters -/
/-! what a helper leaves that may change one list -/
end Rv
/-! own classes: facts, makers, methods, static methods, fields -/
namespace Rv
open PySem PySem.Spec PyProof.Rows L2
/-- its maker -/
structure IDef (K : PySem.W.Frag) (C : Addr) (qual : Str) (st : Stmt) (ps : List Str) (f : Addr) (fd : FuncData) : Prop where
  F : Fun K "__init__" qual st f fd
  b : Binds K fd ps []
  mkr : L2.Mk K C f
/-- a method -/
structure MDef (K : PySem.W.Frag) (C : Addr) (m qual : Str) (st : Stmt) (ps : List Str) (f : Addr) (fd : FuncData) : Prop where
  F : Fun K m qual st f fd
  b : Binds K fd ps []
  m : Meth K C m f
/-- a static method -/
structure SMet (K : PySem.W.Frag) (C : Addr) (m : Str) (p g : Addr) : Prop where
  ga : PySem.W.specialIn K (.ref C) "__getattribute__" = some (some (.builtin "type.__getattribute__"))
  rd : PySem.W.readsIn K C (.type "type") = true
  at_ : PySem.W.findCls K (.ref C) (.type "type") m = some (.get (.builtin "staticmethod.__get__") (.ref p) .none (.ref C))
  rc : ∃ rest, PySem.W.recIn K p "staticmethod" = some (.ref g :: rest)
  kp : PySem.W.keepIn K (.ref g) = true
structure SDef (K : PySem.W.Frag) (C : Addr) (m qual : Str) (st : Stmt) (ps : List Str) (f : Addr) (fd : FuncData) : Prop where
  F : Fun K m qual st f fd
  b : Binds K fd ps []
  s : ∃ p, SMet K C m p f
section
variable {X : Cx} {CX : CXT} {k : Nat} {f C p g : Addr} {fd : FuncData} {ps : List Str} {sp : Sp} {E : XK} {m : Str} {pos apos : Pos} {e o : Expr} {es : List Expr} {ta : TE} {t : TA} {pl : Sem Bool}
end
section
variable {K : PySem.W.Frag} {mg : Str → Option Value} {σ : L2.St} {H : Hp} {Q : VK} {C a dx : Addr} {fs : List (Str × V)} {f m : Str} {v : V} {sp : Sp} {E : XK} {ta tv : TE} {t : TA}
/-! readings -/
end
end Rv
/-! sorted(t), t a tuple of whole numbers -/
namespace Rv
open PySem PySem.Spec PyProof.Rows L2 PySem.Calls
section
variable {prog : Program} {w : World} {A : Around} {E : Value → Shared → Prop} {s : Shared}
theorem gatherT {tp : Addr} {us : List Value} {Q : List Value → Shared → Prop} (it : IsTup s.heap tp us.toArray) (few : us.length ≤ 1000)
    (k : Q us { s with heap := (s.heap.push (seqObj "list" #[] 0)).update s.heap.objs.size (Obj.mapSeq (· ++ us.toArray)) }) :
    wpAny (model prog w) A (collect (.ref tp)) Q E s := by
  obtain ⟨ob, hob, hcl, m, hda⟩ := id it
  have room : us.length ≤ sizeLine := Nat.le_of_lt (small1000 few)
  unfold collect
  refine wpAny_bind (wpAny_runValue (codeAny_builtin entry_proto_collect' ?_))
  show wpAny (model prog w) _ (do again (.builtin "list.__iadd__" ⟨[← newList [], .ref tp], []⟩)) _ _ s
  refine wpAny_bind (wpAny_newList (wpAny_pure ⟨Code.quiet_builtin _ (by decide +kernel), codeAny_builtin entry_list_iadd' ?_⟩))
  have hob2 : (s.heap.push (seqObj "list" #[] 0)).get? tp = some ob := Heap.get?_push_of_some _ hob
  show wpAny (model prog w) _ (Builtin.List.listExtendWith (.ref s.heap.objs.size) (.ref tp) (.ref s.heap.objs.size)) _ _ { s with heap := s.heap.push (seqObj "list" #[] 0) }
  unfold Builtin.List.listExtendWith
  have isT : (Value.type "tuple" == Value.type "tuple") = true := rfl
  refine wpAny_bind (wpAny_typeOf (T := "tuple") ⟨ob, hob2, hcl⟩ ?_)
  rw [if_pos (by rw [isT, Bool.or_true])]
  refine wpAny_bind (listItems_at hob2 hda ?_)
  refine wpAny_bind (listItems_at (n := 0) (xs := #[]) (Heap.get?_push_size _ rfl) rfl ?_)
  rw [if_neg (by simp)]
  have grow : ((#[] : Array Value) ++ us.toArray).size ≤ sizeLine + 1 := by simp only [Array.size_append, List.size_toArray, List.length_nil]; omega
  refine wpAny_bind (listUpdate_at (n := 0) (xs := #[]) (Heap.get?_push_size _ rfl) rfl ?_ (Nat.zero_le _) grow)
  refine wpAny_pure ?_
  have got := get?_update_seq (Heap.get?_push_size (o := seqObj "list" #[] 0) s.heap rfl) (· ++ us.toArray)
  show wpAny (model prog w) A (do
      let ob ← load s.heap.objs.size
      match ob.data with
      | .seq zs _ => pure zs.toList
      | _ => unsupported "internal:collect") Q E { s with heap := (s.heap.push (seqObj "list" #[] 0)).update s.heap.objs.size (Obj.mapSeq (· ++ us.toArray)) }
  refine wpAny_bind (wpAny_load (get?_update_seq (Heap.get?_push_size _ rfl) _) ?_)
  show wpAny (model prog w) A (pure ((#[] : Array Value) ++ us.toArray).toList) Q E _
  rw [show ((#[] : Array Value) ++ us.toArray).toList = us by simp]
  exact wpAny_pure k
theorem sortT {tp : Addr} {us : List Value} {ns : List Int} {Q : Value → Shared → Prop} (it : IsTup s.heap tp us.toArray) (num : IntsAre us ns) (few : us.length < 64)
    (k : ∀ (out : Array Value) (ms : List Int), IntsAre out.toList ms → ms.Perm ns → ms.Pairwise (· ≤ ·) → Q (.ref (s.heap.objs.size + 1)) { s with heap := sortedAll s.heap us out }) :
    wpAny (model prog w) A (call (.builtin "sorted") [.ref tp]) Q E s := by
  refine call_function_entry kind_sorted plain_sorted entry_sorted (args_sorted1 _) ?_
  unfold Builtin.«sorted»
  refine wpAny_bind (m := checkCount "sorted" 1 1 _) (wpAny_pure (wpAny_bind (gatherT it (by omega) (wpAny_bind (wpAny_newList ?_)))))
  have size1 : ((s.heap.push (seqObj "list" #[] 0)).update s.heap.objs.size (Obj.mapSeq (· ++ us.toArray))).objs.size = s.heap.objs.size + 1 := by
    rw [Heap.size_update, size_push']
  have at1 := Heap.get?_push_size ((s.heap.push (seqObj "list" #[] 0)).update s.heap.objs.size (Obj.mapSeq (· ++ us.toArray))) (o := seqObj "list" us.toArray 0) rfl
  rw [size1] at at1
  show wpAny (model prog w) _ _ _ _ { s with heap := ((s.heap.push (seqObj "list" #[] 0)).update s.heap.objs.size (Obj.mapSeq (· ++ us.toArray))).push (seqObj "list" us.toArray 0) }
  rw [size1]
  refine wpAny_bind (wpAny_holding (wpAny_call_entry slot_list_sort ⟨_, at1, rfl⟩ entry_list_sort (list_sort_tree at1 num few fun out ms b1 b2 b3 => ⟨_, rfl, ?_⟩) (args_list_sort _)))
  exact wpAny_pure ⟨_, rfl, k out ms b1 b2 b3⟩
end
end Rv
/-! the mathematics of k07: steps of Lagging, Workers, Machine -/
namespace RM
abbrev Stp := Int × List Nat
end RM
/-! for k07: how steps, specs and rules lie in the heap; a box of draws with two lists -/
namespace Rv
open PySem PySem.Spec PyProof.Rows L2 RM
/-! what never changes stays -/
section
variable {H H' H1 H2 : Hp} {p a : Addr} {o x : HO} {xs : List V} {gs : List Int} {B : Box}
end
/-! steps; a state is a tuple whose object is known -/
def StpAt (H : Hp) (p : Addr) (s : Stp) : Prop := ∃ q, H p = some (.tup [.int s.1, .ref q]) ∧ GT H q (niz s.2)
def StpsAt (H : Hp) (ps : List Addr) (ss : List Stp) : Prop := ps.length = ss.length ∧ ∀ (i : Nat) (s : Stp), ss[i]? = some s → ∃ p, ps[i]? = some p ∧ StpAt H p s
section
variable {K : PySem.W.Frag} {H H' : Hp} {p : Addr} {s : Stp} {ps qs : List Addr} {ss ts : List Stp}
theorem StpsAt.at (h : StpsAt H ps ss) {i : Nat} (hi : i < ss.length) : ∃ p, ps[i]? = some p ∧ StpAt H p ss[i] := h.2 i _ (List.getElem?_eq_getElem hi)
end
/-! specs -/
/-! rules; M: what may change elsewhere -/
/-! the box: numbers, great ones, a great one that is used up, a count -/
section
variable {b c g : Addr} {ns gs : List Int} {n1 : b ≠ c} {n2 : g ≠ c} {n3 : b ≠ g} {H H' : Hp} {bu ct : Int}
end
end Rv
/-! t * 1 -/
namespace Rv
open PySem PySem.Spec PyProof.Rows L2
/-! tuples whose object is known -/
/-- t.index(k) -/
def tTix (to te : TE) : TE := fun σ H Q => to σ H fun x H1 => ∃ p ns, x = .ref p ∧ GT H1 p ns ∧ te σ H1 fun y H2 => ∃ k, [y] = [V.int k] ∧ GT H2 p ns ∧ k ∈ ns ∧ Q (.int (ns.idxOf k : Nat)) H2
def rTIxQ (K : PySem.W.Frag) : V → List V → Hp → VK → Prop := fun x xs H Q => ∃ (p : Addr) (ns : List Int) (k : Int), x = .ref p ∧ xs = [.int k] ∧ SqT K H p (ns.map V.int) ∧ k ∈ ns ∧ Q (.int (ns.idxOf k : Nat)) H
theorem mt_tIxQ {X : Cx} : MtR X "tuple.index" (rTIxQ X.K) := by
  intro pins s σ H x xs v us Q I rx rs h
  obtain ⟨p, ns, k, rfl, rfl, hs, hk, q⟩ := h
  cases rx
  obtain ⟨u, rfl, ru⟩ := rs.one
  obtain ⟨t, rfl⟩ := ru
  obtain ⟨its, rv, tp, _⟩ := I.tuple hs
  exact PySem.SeqAt.tuple_index_ints (show s.heap.IsTuple p its.toArray from tp) (ints_of_vals rv) hk ⟨.int (ns.idxOf k : Nat), H, I.tok _, ⟨_, rfl⟩, q⟩
theorem pe_tix {X : Cx} {o e : Expr} {to te : TE} {apos cpos : Pos} (ho : PE X o to) (he : PE X e te)
    (h1 : attributeBase o "index" X.env (eval o X.env) = eval o X.env := by rfl)
    (h2 : ((backTo cpos (starEach [e] X.env)).all (fun x => !x.1) && (backToKw cpos (keywordEach [] X.env)).all (fun x => x.1.isSome)
      && decide ([e].length + ([] : List Keyword).length + (if ([] : List Keyword).isEmpty then 0 else 1) < 30)) = true := by rfl)
    (h3 : (apos.endLine == cpos.line) = true := by rfl) (h4 : starEach [e] X.env = (false, eval e X.env) :: starEach [] X.env := by rfl) (h5 : (backTo cpos (starEach [] X.env)).any (·.1) = false := by rfl) :
    PE X (.Call (.Attribute o "index" apos) [e] [] cpos) (tTix to te) := by
  refine ⟨fun pins s σ H Q I h => ?_⟩
  refine wpAny_Call_method_late h1 h2 h3 rfl (thn (ho.run pins s σ H _ I h) fun v s1 ⟨x, H1, I1, r1, p, ns, ex, gp, q1⟩ => ?_)
  subst ex
  cases r1
  obtain ⟨ob, hb, hd⟩ := id gp
  obtain ⟨ho1, _, its, rv, o2, ho2, hc2, n2, hd2⟩ := (show ObjOk X.prog X.w H1 s1.heap p (.frz ob (.tup (ns.map V.int))) from I1.hok p _ hb)
  rw [ho1] at ho2
  cases ho2
  refine ⟨"tuple", _, PySem.F.plainAttrs_tuple, PySem.F.slot_tuple_index, PySem.F.type_tuple_index, ⟨_, ho1, hc2⟩, fun a ea => by cases ea; exact ⟨_, ho1, hd⟩, ?_⟩
  have ha : PA X [e] (tCons te tNil) := pa_cons he pa_nil (hs := h4)
  have hA := ha.run cpos pins s1 σ H1 (fun vs H2 => ∃ k, vs = [.int k] ∧ GT H2 p ns ∧ k ∈ ns ∧ Q (.int (ns.idxOf k : Nat)) H2) I1 q1
  rw [h4] at hA ⊢
  refine Calls.callWith_builtin (by show (false || (backTo cpos (starEach [] X.env)).any (·.1)) = false; rw [h5] <;> rfl) (Calls.evalArgs_plain ?_)
  exact thn hA fun us s2 ⟨vs, H2, I2, r2, k, ev, g2, hk, q2⟩ => mt_tIxQ pins s2 σ H2 (.ref p) vs (.ref p) us Q I2 rfl r2 ⟨p, ns, k, rfl, ev, g2.sq, hk, q2⟩
section
variable {K : PySem.W.Frag} {w : World} {H : Hp} {Q : VK} {p : Addr} {gs ns : List Int} {σ : L2.St}
end
theorem decI (a b : Int) : decide (V.int a = V.int b) = decide (a = b) := by
  rw [Bool.eq_iff_iff, decide_eq_true_eq, decide_eq_true_eq]
  exact ⟨V.int.inj, fun e => by rw [e]⟩
end Rv
/-! the mathematics of rename pairs: chains, rings, what moves -/
namespace RQ
open RL
def full (l : List Int) : List Int := l.filter fun x => !decide (x = -1)
theorem mem_full {l : List Int} {x : Int} : x ∈ full l ↔ x ∈ l ∧ x ≠ -1 := by
  unfold full
  rw [List.mem_filter]
  simp
theorem inj_of : ∀ (l : List Int), (full l).Nodup → ∀ (i j : Nat) (x : Int), l[i]? = some x → l[j]? = some x → x ≠ -1 → i = j
  | [], _, i, _, _, h, _, _ => by simp at h
  | y :: r, nd, 0, 0, _, _, _, _ => rfl
  | y :: r, nd, 0, j + 1, x, h1, h2, nx => by
    cases h1
    have m : y ∈ full r := mem_full.mpr ⟨List.mem_of_getElem? h2, nx⟩
    unfold full at nd
    rw [List.filter_cons_of_pos (by simpa using nx)] at nd
    exact absurd m (List.nodup_cons.mp nd).1
  | y :: r, nd, i + 1, 0, x, h1, h2, nx => by
    cases h2
    have m : y ∈ full r := mem_full.mpr ⟨List.mem_of_getElem? h1, nx⟩
    unfold full at nd
    rw [List.filter_cons_of_pos (by simpa using nx)] at nd
    exact absurd m (List.nodup_cons.mp nd).1
  | y :: r, nd, i + 1, j + 1, x, h1, h2, nx => by
    have nd2 : (full r).Nodup := by
      unfold full at nd ⊢
      rw [List.filter_cons] at nd
      split at nd
      · exact (List.nodup_cons.mp nd).2
      · exact nd
    rw [inj_of r nd2 i j x h1 h2 nx]
structure Ren (es fs : List Int) : Prop where
  pm : es.Perm fs
  nd : (full es).Nodup
section
variable {es fs : List Int}
theorem Ren.len (R : Ren es fs) : es.length = fs.length := R.pm.length_eq
theorem Ren.swap (R : Ren es fs) : Ren fs es := ⟨R.pm.symm, (R.pm.filter _).nodup_iff.mp R.nd⟩
theorem get_at {l : List Int} {i : Nat} (h : i < l.length) : l[i]? = some (l.getD i 0) := by
  rw [List.getD_eq_getElem?_getD, List.getElem?_eq_getElem h]; rfl
theorem mem_at {l : List Int} {i : Nat} (h : i < l.length) : l.getD i 0 ∈ l := List.mem_of_getElem? (get_at h)
theorem at_idx {l : List Int} {x : Int} (h : x ∈ l) : l.idxOf x < l.length ∧ l.getD (l.idxOf x) 0 = x := by
  have hl := List.idxOf_lt_length_iff.mpr h
  refine ⟨hl, ?_⟩
  rw [List.getD_eq_getElem?_getD, List.getElem?_eq_getElem hl, List.getElem_idxOf hl]; rfl
theorem Ren.inj (R : Ren es fs) {i j : Nat} (hi : i < es.length) (hj : j < es.length) (e : es.getD i 0 = es.getD j 0) (n : es.getD i 0 ≠ -1) : i = j :=
  inj_of es R.nd i j _ (get_at hi) (by rw [e]; exact get_at hj) n
theorem Ren.injF (R : Ren es fs) {i j : Nat} (hi : i < es.length) (hj : j < es.length) (e : fs.getD i 0 = fs.getD j 0) (n : fs.getD i 0 ≠ -1) : i = j :=
  R.swap.inj (by rw [← R.len]; exact hi) (by rw [← R.len]; exact hj) e n
/-- where the value that lies there after lies before -/
def G (es fs : List Int) (b : Nat) : Nat := if fs.getD b 0 = -1 then b else es.idxOf (fs.getD b 0)
theorem Ren.to (R : Ren es fs) {b : Nat} (hb : b < es.length) (n : fs.getD b 0 ≠ -1) : G es fs b < es.length ∧ es.getD (G es fs b) 0 = fs.getD b 0 := by
  unfold G
  rw [if_neg n]
  exact at_idx (R.pm.mem_iff.mpr (mem_at (by rw [← R.len]; exact hb)))
theorem Ren.lt (R : Ren es fs) : ∀ b, b < es.length → G es fs b < es.length := fun b hb => by
  by_cases n : fs.getD b 0 = -1
  · unfold G; rw [if_pos n]; exact hb
  · exact (R.to hb n).1
structure Ar (es fs : List Int) (a b : Nat) : Prop where
  l1 : a < es.length
  l2 : b < es.length
  ne : a ≠ b
  fu : fs.getD a 0 ≠ -1
  eq : fs.getD a 0 = es.getD b 0
theorem Ar.swap (R : Ren es fs) {a b : Nat} (h : Ar es fs a b) : Ar fs es b a := ⟨by rw [← R.len]; exact h.l2, by rw [← R.len]; exact h.l1, h.ne.symm, by rw [← h.eq]; exact h.fu, h.eq.symm⟩
theorem Ar.left (R : Ren es fs) {a b c : Nat} (h : Ar es fs a b) (k : Ar es fs c b) : a = c := R.injF h.l1 k.l1 (h.eq.trans k.eq.symm) h.fu
theorem Ar.right (R : Ren es fs) {a b : Nat} (h : Ar es fs a b) : G es fs a = b := by
  obtain ⟨k1, k2⟩ := R.to h.l1 h.fu
  exact R.inj k1 h.l2 (k2.trans h.eq) (by rw [k2]; exact h.fu)
theorem Ren.ar (R : Ren es fs) {a : Nat} (ha : a < es.length) (n : fs.getD a 0 ≠ -1) (ne : G es fs a ≠ a) : Ar es fs a (G es fs a) := ⟨ha, (R.to ha n).1, fun e => ne e.symm, n, (R.to ha n).2.symm⟩
theorem Ren.ar2 (R : Ren es fs) {a : Nat} (ha : a < es.length) (ne : G es fs a ≠ a) : Ar es fs a (G es fs a) := R.ar ha (fun n => ne (by unfold G; rw [if_pos n])) ne
/-- a way: each step is an arrow -/
theorem way_ar (R : Ren es fs) {b : Nat} {p : List Nat} (P : Pth (G es fs) es.length b p) {i x y : Nat} (h1 : p[i]? = some x) (h2 : p[i + 1]? = some y) : Ar es fs x y := by
  have e := P.st i x y h1 h2
  have ne : x ≠ y := fun z => by
    rw [← z] at h2
    have := nd_inj P.nd h1 h2
    omega
  rw [e] at ne ⊢
  exact R.ar2 (P.lt x (List.mem_of_getElem? h1)) ne.symm
def Fo (es fs : List Int) (b : Nat) : List Nat := F (G es fs) es.length b
theorem fo_p (R : Ren es fs) {b : Nat} (hb : b < es.length) : Pth (G es fs) es.length b (Fo es fs b) ∧ G es fs ((Fo es fs b).getLastD 0) ∈ Fo es fs b := F_end R.lt hb
theorem fo_closed (R : Ren es fs) {b : Nat} (hb : b < es.length) {x : Nat} (hx : x ∈ Fo es fs b) : G es fs x ∈ Fo es fs b := by
  obtain ⟨P, e⟩ := fo_p R hb
  obtain ⟨i, hi⟩ := List.getElem?_of_mem hx
  have li := (List.getElem?_eq_some_iff.mp hi).1
  by_cases z : i + 1 < (Fo es fs b).length
  · have e2 : (Fo es fs b)[i + 1]? = some (Fo es fs b)[i + 1] := List.getElem?_eq_getElem z
    rw [← P.st i x _ hi e2]
    exact List.getElem_mem z
  · have e2 := last_at P.ne
    rw [show (Fo es fs b).length - 1 = i by omega, hi] at e2
    rw [Option.some.inj e2]
    exact e
/-- how a way ends -/
theorem fo_end (R : Ren es fs) {b : Nat} (hb : b < es.length) : fs.getD ((Fo es fs b).getLastD 0) 0 = -1 ∨ (Fo es fs b = [b] ∧ es.getD b 0 = fs.getD b 0 ∧ fs.getD b 0 ≠ -1) ∨
    (1 < (Fo es fs b).length ∧ G es fs ((Fo es fs b).getLastD 0) = b ∧ fs.getD ((Fo es fs b).getLastD 0) 0 ≠ -1) := by
  obtain ⟨P, e⟩ := fo_p R hb
  have ll := P.lt _ (last_mem P.ne)
  by_cases n : fs.getD ((Fo es fs b).getLastD 0) 0 = -1
  · exact .inl n
  · have pl : 0 < (Fo es fs b).length := List.length_pos_iff.mpr P.ne
    have la := last_at P.ne
    obtain ⟨t1, t2⟩ := R.to ll n
    by_cases z : G es fs ((Fo es fs b).getLastD 0) = (Fo es fs b).getLastD 0
    · rw [z] at t2
      by_cases one : (Fo es fs b).length = 1
      · obtain ⟨c, hc⟩ := List.length_eq_one_iff.mp one
        have h0 := P.hd
        rw [hc] at h0 t2 n
        cases h0
        exact .inr (.inl ⟨hc, t2, n⟩)
      · have h1 : (Fo es fs b)[(Fo es fs b).length - 2]? = some (Fo es fs b)[(Fo es fs b).length - 2] := List.getElem?_eq_getElem (by omega)
        have A := way_ar R P h1 (by rw [show (Fo es fs b).length - 2 + 1 = (Fo es fs b).length - 1 by omega]; exact la)
        exact absurd (R.injF A.l1 A.l2 (A.eq.trans t2) A.fu) A.ne
    · have A := R.ar2 ll z
      obtain ⟨i, hi⟩ := List.getElem?_of_mem e
      have li := (List.getElem?_eq_some_iff.mp hi).1
      cases i with
      | zero =>
        have h0 := P.hd
        rw [hi] at h0
        have h1 := Option.some.inj h0
        refine .inr (.inr ⟨?_, h1, n⟩)
        by_cases one : (Fo es fs b).length = 1
        · rw [one] at la
          rw [hi] at la
          exact absurd (Option.some.inj la) z
        · omega
      | succ i =>
        have h1 : (Fo es fs b)[i]? = some (Fo es fs b)[i] := List.getElem?_eq_getElem (by omega)
        have B := way_ar R P h1 hi
        have e2 := B.left R A
        rw [e2] at h1
        have := nd_inj P.nd h1 la
        omega
def Ch (es fs : List Int) (b : Nat) : Prop := es.getD b 0 = -1 ∧ fs.getD b 0 ≠ -1
instance : Decidable (Ch es fs b) := by unfold Ch; exact inferInstance
theorem ch_end (R : Ren es fs) {b : Nat} (hb : b < es.length) (c : Ch es fs b) : fs.getD ((Fo es fs b).getLastD 0) 0 = -1 ∧ 1 < (Fo es fs b).length := by
  obtain ⟨P, _⟩ := fo_p R hb
  have pl : 0 < (Fo es fs b).length := List.length_pos_iff.mpr P.ne
  rcases fo_end R hb with h | ⟨_, h, _⟩ | ⟨_, h, n⟩
  · refine ⟨h, ?_⟩
    by_cases one : (Fo es fs b).length = 1
    · obtain ⟨x, hx⟩ := List.length_eq_one_iff.mp one
      have h0 := P.hd
      rw [hx] at h0 h
      cases h0
      exact absurd h c.2
    · omega
  · rw [c.1] at h
    exact absurd h.symm c.2
  · have := (R.to (P.lt _ (last_mem P.ne)) n).2
    rw [h, c.1] at this
    exact absurd this.symm n
theorem rg_end (R : Ren es fs) {b : Nat} (hb : b < es.length) (r : IsR (G es fs) (Fo es fs b)) : G es fs ((Fo es fs b).getLastD 0) = b ∧ fs.getD ((Fo es fs b).getLastD 0) 0 ≠ -1 ∧ Ar es fs ((Fo es fs b).getLastD 0) b := by
  obtain ⟨P, _⟩ := fo_p R hb
  have e := r.2.1
  rw [P.headD] at e
  have ne : (Fo es fs b).getLastD 0 ≠ b := fun z => by
    have la := last_at P.ne
    rw [z] at la
    have := nd_inj P.nd P.hd la
    have := r.1
    omega
  have A := R.ar2 (P.lt _ (last_mem P.ne)) (by rw [e]; exact ne.symm)
  rw [e] at A
  exact ⟨e, A.fu, A⟩
/-- closed under both directions -/
def Cl (es fs : List Int) (p : List Nat) : Prop := ∀ x y, Ar es fs x y → (x ∈ p ↔ y ∈ p)
theorem cl_of (R : Ren es fs) {b : Nat} (hb : b < es.length) (h : es.getD b 0 = -1 ∨ Ar es fs ((Fo es fs b).getLastD 0) b) : Cl es fs (Fo es fs b) := fun x y A => by
  obtain ⟨P, _⟩ := fo_p R hb
  refine ⟨fun hx => by rw [← A.right R]; exact fo_closed R hb hx, fun hy => ?_⟩
  obtain ⟨i, hi⟩ := List.getElem?_of_mem hy
  have li := (List.getElem?_eq_some_iff.mp hi).1
  cases i with
  | zero =>
    have h0 := P.hd
    rw [hi] at h0
    have e := Option.some.inj h0
    rcases h with h | h
    · have := A.eq
      rw [e, h] at this
      exact absurd this A.fu
    · rw [e] at A
      rw [A.left R h]
      exact last_mem P.ne
  | succ i =>
    have h1 : (Fo es fs b)[i]? = some (Fo es fs b)[i] := List.getElem?_eq_getElem (by omega)
    rw [A.left R (way_ar R P h1 hi)]
    exact List.getElem_mem _
theorem cl_ch (R : Ren es fs) {b : Nat} (hb : b < es.length) (c : Ch es fs b) : Cl es fs (Fo es fs b) := cl_of R hb (.inl c.1)
theorem cl_rg (R : Ren es fs) {b : Nat} (hb : b < es.length) (r : IsR (G es fs) (Fo es fs b)) : Cl es fs (Fo es fs b) := cl_of R hb (.inr (rg_end R hb r).2.2)
/-- a way lies within what is closed, or beside it -/
theorem conn {p S : List Nat} (st : ∀ i x y, p[i]? = some x → p[i + 1]? = some y → (x ∈ S ↔ y ∈ S)) {x z : Nat} (hx : x ∈ p) (xs : x ∈ S) (hz : z ∈ p) : z ∈ S := by
  have all : ∀ (j : Nat) (u v : Nat), p[0]? = some u → p[j]? = some v → (u ∈ S ↔ v ∈ S) := by
    intro j
    induction j with
    | zero => intro u v h1 h2; rw [h1] at h2; rw [Option.some.inj h2]
    | succ j ih =>
      intro u v h1 h2
      have lj := (List.getElem?_eq_some_iff.mp h2).1
      have e : p[j]? = some p[j] := List.getElem?_eq_getElem (by omega)
      exact (ih u _ h1 e).trans (st j _ v e h2)
  obtain ⟨i, hi⟩ := List.getElem?_of_mem hx
  obtain ⟨k, hk⟩ := List.getElem?_of_mem hz
  have l0 := (List.getElem?_eq_some_iff.mp hi).1
  have e0 : p[0]? = some p[0] := List.getElem?_eq_getElem (by omega)
  exact (all k _ z e0 hk).mp ((all i _ x e0 hi).mpr xs)
theorem conn_fo (R : Ren es fs) {b : Nat} (hb : b < es.length) {S : List Nat} (c : Cl es fs S) {x z : Nat} (hx : x ∈ Fo es fs b) (xs : x ∈ S) (hz : z ∈ Fo es fs b) : z ∈ S :=
  conn (fun i u v h1 h2 => c u v (way_ar R (fo_p R hb).1 h1 h2)) hx xs hz
theorem conn_of (R : Ren es fs) {b : Nat} (hb : b < es.length) {S : List Nat} (c : Cl es fs S) {x z : Nat} (hx : x ∈ Fo fs es b) (xs : x ∈ S) (hz : z ∈ Fo fs es b) : z ∈ S :=
  conn (fun i u v h1 h2 => (c v u ((way_ar R.swap (fo_p R.swap (by rw [← R.len]; exact hb)).1 h1 h2).swap R.swap)).symm) hx xs hz
/-- the heads -/
def starts (es fs : List Int) (n : Nat) : List Nat := (List.range n).filter fun b => decide (Ch es fs b)
def tops (es fs : List Int) (n : Nat) : List Nat := (List.range n).filter fun b => decide (IsR (G es fs) (Fo es fs b))
def heads (es fs : List Int) : List Nat := starts es fs es.length ++ tops es fs es.length
theorem mem_starts {n b : Nat} : b ∈ starts es fs n ↔ b < n ∧ Ch es fs b := by unfold starts; rw [List.mem_filter, List.mem_range, decide_eq_true_eq]
theorem mem_tops {n b : Nat} : b ∈ tops es fs n ↔ b < n ∧ IsR (G es fs) (Fo es fs b) := by unfold tops; rw [List.mem_filter, List.mem_range, decide_eq_true_eq]
/-- no head is led to, or the head is the least and led to -/
theorem head_kind (R : Ren es fs) {b : Nat} (h : b ∈ heads es fs) : b < es.length ∧ Cl es fs (Fo es fs b) ∧ 1 < (Fo es fs b).length ∧ (Ch es fs b ∨ IsR (G es fs) (Fo es fs b)) := by
  rcases List.mem_append.mp h with h | h
  · obtain ⟨l, c⟩ := mem_starts.mp h
    exact ⟨l, cl_ch R l c, (ch_end R l c).2, .inl c⟩
  · obtain ⟨l, r⟩ := mem_tops.mp h
    exact ⟨l, cl_rg R l r, r.1, .inr r⟩
theorem led_in (R : Ren es fs) {b : Nat} (hb : b < es.length) (r : IsR (G es fs) (Fo es fs b)) {x : Nat} (hx : x ∈ Fo es fs b) : ∃ a, Ar es fs a x := by
  obtain ⟨P, _⟩ := fo_p R hb
  obtain ⟨i, hi⟩ := List.getElem?_of_mem hx
  have li := (List.getElem?_eq_some_iff.mp hi).1
  cases i with
  | zero =>
    have h0 := P.hd
    rw [hi] at h0
    rw [Option.some.inj h0]
    exact ⟨_, (rg_end R hb r).2.2⟩
  | succ i => exact ⟨_, way_ar R P (List.getElem?_eq_getElem (by omega)) hi⟩
theorem same_head (R : Ren es fs) {b c x : Nat} (hb : b ∈ heads es fs) (hc : c ∈ heads es fs) (xb : x ∈ Fo es fs b) (xc : x ∈ Fo es fs c) : b = c := by
  obtain ⟨lb, cb, _, kb⟩ := head_kind R hb
  obtain ⟨lc, cc, _, kc⟩ := head_kind R hc
  have Pb := (fo_p R lb).1
  have Pc := (fo_p R lc).1
  have b0 : b ∈ Fo es fs b := List.mem_of_getElem? Pb.hd
  have c0 : c ∈ Fo es fs c := List.mem_of_getElem? Pc.hd
  have bc : b ∈ Fo es fs c := conn_fo R lb cc xb xc b0
  have cb2 : c ∈ Fo es fs b := conn_fo R lc cb xc xb c0
  have no : ∀ {u}, Ch es fs u → ∀ a, ¬ Ar es fs a u := fun k a A => by
    have := A.eq
    rw [k.1] at this
    exact A.fu this
  rcases kb with kb | kb
  · rcases kc with kc | kc
    · obtain ⟨i, hi⟩ := List.getElem?_of_mem bc
      have li := (List.getElem?_eq_some_iff.mp hi).1
      cases i with
      | zero =>
        have h0 := Pc.hd
        rw [hi] at h0
        exact Option.some.inj h0
      | succ i => exact absurd (way_ar R Pc (List.getElem?_eq_getElem (show i < (Fo es fs c).length by omega)) hi) (no kb _)
    · obtain ⟨a, A⟩ := led_in R lc kc bc
      exact absurd A (no kb a)
  · rcases kc with kc | kc
    · obtain ⟨a, A⟩ := led_in R lb kb cb2
      exact absurd A (no kc a)
    · have h1 := kb.2.2 c cb2
      have h2 := kc.2.2 b bc
      rw [Pb.headD] at h1
      rw [Pc.headD] at h2
      omega
theorem min_of : ∀ {p : List Nat}, p ≠ [] → ∃ m, m ∈ p ∧ ∀ x ∈ p, m ≤ x
  | [], h => absurd rfl h
  | [a], _ => ⟨a, List.mem_cons_self .., fun x hx => by rw [List.mem_singleton.mp hx]; exact Nat.le_refl _⟩
  | a :: b :: r, _ => by
    obtain ⟨m, h1, h2⟩ := min_of (p := b :: r) (by simp)
    by_cases z : a ≤ m
    · exact ⟨a, List.mem_cons_self .., fun x hx => by
        rcases List.mem_cons.mp hx with e | k
        · rw [e]; exact Nat.le_refl _
        · exact Nat.le_trans z (h2 x k)⟩
    · exact ⟨m, List.mem_cons_of_mem _ h1, fun x hx => by
        rcases List.mem_cons.mp hx with e | k
        · rw [e]; omega
        · exact h2 x k⟩
/-- each block that changes lies in a row -/
theorem covered (R : Ren es fs) {b : Nat} (hb : b < es.length) (ne : es.getD b 0 ≠ fs.getD b 0) : ∃ h, h ∈ heads es fs ∧ b ∈ Fo es fs h := by
  obtain ⟨P, _⟩ := fo_p R hb
  have b0 : b ∈ Fo es fs b := List.mem_of_getElem? P.hd
  rcases fo_end R hb with h1 | ⟨_, e, _⟩ | ⟨l1, e1, n1⟩
  · have hb' : b < fs.length := by rw [← R.len]; exact hb
    obtain ⟨P', _⟩ := fo_p R.swap hb'
    have b0' : b ∈ Fo fs es b := List.mem_of_getElem? P'.hd
    have lst' := last_mem P'.ne
    have lc : (Fo fs es b).getLastD 0 < es.length := by rw [R.len]; exact P'.lt _ lst'
    rcases fo_end R.swap hb' with h2 | ⟨_, e, _⟩ | ⟨l2, e2, n2⟩
    · have c : Ch es fs ((Fo fs es b).getLastD 0) := by
        refine ⟨h2, ?_⟩
        by_cases one : (Fo fs es b).length = 1
        · obtain ⟨x, hx⟩ := List.length_eq_one_iff.mp one
          have h0 := P'.hd
          rw [hx] at h0 h2 ⊢
          cases h0
          exact fun z => ne (h2.trans z.symm)
        · have la := last_at P'.ne
          have pl : 0 < (Fo fs es b).length := List.length_pos_iff.mpr P'.ne
          have A := way_ar R.swap P' (i := (Fo fs es b).length - 2) (List.getElem?_eq_getElem (by omega)) (by rw [show (Fo fs es b).length - 2 + 1 = (Fo fs es b).length - 1 by omega]; exact la)
          rw [← A.eq]
          exact A.fu
      refine ⟨_, List.mem_append_left _ (mem_starts.mpr ⟨lc, c⟩), ?_⟩
      exact conn_of R hb (cl_ch R lc c) lst' (List.mem_of_getElem? (fo_p R lc).1.hd) b0'
    · exact absurd e.symm ne
    · exfalso
      have ne2 : (Fo fs es b).getLastD 0 ≠ b := fun z => by
        have la := last_at P'.ne
        rw [z] at la
        have := nd_inj P'.nd P'.hd la
        omega
      have A0 := R.swap.ar2 (P'.lt _ lst') (by rw [e2]; exact ne2.symm)
      rw [e2] at A0
      have cl' := cl_of R.swap hb' (.inr A0)
      have cl : Cl es fs (Fo fs es b) := fun x y A => (cl' y x (A.swap R)).symm
      have m := conn_fo R hb cl b0 b0' (last_mem P.ne)
      obtain ⟨i, hi⟩ := List.getElem?_of_mem m
      have li := (List.getElem?_eq_some_iff.mp hi).1
      have : ∃ a, Ar fs es a ((Fo es fs b).getLastD 0) := by
        cases i with
        | zero =>
          have h0 := P'.hd
          rw [hi] at h0
          rw [Option.some.inj h0]
          exact ⟨_, A0⟩
        | succ i => exact ⟨_, way_ar R.swap P' (List.getElem?_eq_getElem (by omega)) hi⟩
      obtain ⟨a, A⟩ := this
      have := A.eq
      rw [h1] at this
      exact A.fu this
  · exact absurd e ne
  · have ne2 : (Fo es fs b).getLastD 0 ≠ b := fun z => by
      have la := last_at P.ne
      rw [z] at la
      have := nd_inj P.nd P.hd la
      omega
    have A0 := R.ar2 (P.lt _ (last_mem P.ne)) (by rw [e1]; exact ne2.symm)
    rw [e1] at A0
    have cl := cl_of R hb (.inr A0)
    have led : ∀ x ∈ Fo es fs b, ∃ a, Ar es fs a x := fun x hx => by
      obtain ⟨i, hi⟩ := List.getElem?_of_mem hx
      have li := (List.getElem?_eq_some_iff.mp hi).1
      cases i with
      | zero =>
        have h0 := P.hd
        rw [hi] at h0
        rw [Option.some.inj h0]
        exact ⟨_, A0⟩
      | succ i => exact ⟨_, way_ar R P (List.getElem?_eq_getElem (by omega)) hi⟩
    have ful : ∀ x ∈ Fo es fs b, fs.getD x 0 ≠ -1 := fun x hx => by
      obtain ⟨i, hi⟩ := List.getElem?_of_mem hx
      have li := (List.getElem?_eq_some_iff.mp hi).1
      by_cases z : i + 1 < (Fo es fs b).length
      · exact (way_ar R P hi (List.getElem?_eq_getElem z)).fu
      · have la := last_at P.ne
        rw [show (Fo es fs b).length - 1 = i by omega, hi] at la
        rw [Option.some.inj la]
        exact n1
    obtain ⟨m, hm, hle⟩ := min_of P.ne
    have lm := P.lt m hm
    obtain ⟨Q, _⟩ := fo_p R lm
    have m0 : m ∈ Fo es fs m := List.mem_of_getElem? Q.hd
    have sub : ∀ x ∈ Fo es fs m, x ∈ Fo es fs b := fun x hx => conn_fo R lm cl m0 hm hx
    rcases fo_end R lm with h | ⟨_, e, _⟩ | ⟨l2, e2, n2⟩
    · exact absurd h (ful _ (sub _ (last_mem Q.ne)))
    · obtain ⟨a, A⟩ := led m hm
      exact absurd (R.injF A.l1 A.l2 (A.eq.trans e) A.fu) A.ne
    · have r : IsR (G es fs) (Fo es fs m) := ⟨l2, by rw [Q.headD]; exact e2, fun x hx => by rw [Q.headD]; exact hle x (sub x hx)⟩
      refine ⟨m, List.mem_append_right _ (mem_tops.mpr ⟨lm, r⟩), ?_⟩
      exact conn_fo R hb (cl_rg R lm r) hm m0 b0
theorem row_changed (R : Ren es fs) {h x : Nat} (hh : h ∈ heads es fs) (hx : x ∈ Fo es fs h) : x < es.length ∧ es.getD x 0 ≠ fs.getD x 0 := by
  obtain ⟨l, c, _, k⟩ := head_kind R hh
  obtain ⟨P, _⟩ := fo_p R l
  refine ⟨P.lt x hx, fun e => ?_⟩
  have led : (∃ a, Ar es fs a x) ∨ (x = h ∧ Ch es fs h) := by
    rcases k with k | k
    · obtain ⟨i, hi⟩ := List.getElem?_of_mem hx
      have li := (List.getElem?_eq_some_iff.mp hi).1
      cases i with
      | zero =>
        have h0 := P.hd
        rw [hi] at h0
        exact .inr ⟨Option.some.inj h0, k⟩
      | succ i => exact .inl ⟨_, way_ar R P (List.getElem?_eq_getElem (by omega)) hi⟩
    · exact .inl (led_in R l k hx)
  rcases led with ⟨a, A⟩ | ⟨rfl, c⟩
  · exact A.ne (R.injF A.l1 A.l2 (A.eq.trans e) A.fu)
  · exact c.2 (e.symm.trans c.1)
def allRows (es fs : List Int) : List Nat := (heads es fs).flatMap (Fo es fs)
def changed (es fs : List Int) (n : Nat) : List Nat := (List.range n).filter fun b => !decide (es.getD b 0 = fs.getD b 0)
theorem pw_range (n : Nat) (p : Nat → Bool) : ((List.range n).filter p).Pairwise (· < ·) := (List.pairwise_lt_range).filter _
theorem nd_range (n : Nat) (p : Nat → Bool) : ((List.range n).filter p).Nodup := (pw_range n p).imp fun h e => by omega
theorem heads_nd (R : Ren es fs) : (heads es fs).Nodup := by
  unfold heads
  rw [List.nodup_append]
  refine ⟨nd_range _ _, nd_range _ _, fun a ha b hb e => ?_⟩
  subst e
  obtain ⟨l, c⟩ := mem_starts.mp ha
  obtain ⟨_, r⟩ := mem_tops.mp hb
  have := (rg_end R l r).2.2
  have e := this.eq
  rw [c.1] at e
  exact this.fu e
theorem rows_perm (R : Ren es fs) : (allRows es fs).Perm (changed es fs es.length) := by
  refine (List.perm_ext_iff_of_nodup ?_ (nd_range _ _)).mpr fun a => ?_
  · unfold allRows List.Nodup
    rw [List.pairwise_flatMap]
    refine ⟨fun h hh => (fo_p R (head_kind R hh).1).1.nd, ?_⟩
    have nd := heads_nd R
    refine List.Pairwise.imp_of_mem (R := (· ≠ ·)) (fun {b c} hb hc ne x hx y hy e => ?_) nd
    rw [← e] at hy
    exact ne (same_head R hb hc hx hy)
  · unfold allRows
    rw [List.mem_flatMap, List.mem_filter, List.mem_range]
    refine ⟨fun ⟨h, h1, h2⟩ => ?_, fun ⟨h1, h2⟩ => ?_⟩
    · obtain ⟨l, n⟩ := row_changed R h1 h2
      exact ⟨l, by simpa using n⟩
    · exact covered R h1 (by simpa using h2)
/-! what moves -/
def mvA (es fs : List Int) (n : Nat) : List Int := ((List.range n).filter fun b => !decide (fs.getD b 0 = es.getD b 0) && !decide (fs.getD b 0 = -1)).map (fs.getD · 0)
def mvB (es fs : List Int) (n : Nat) : List Int := ((List.range n).filter fun b => !decide (es.getD b 0 = -1) && !decide (es.idxOf (es.getD b 0) = fs.idxOf (es.getD b 0))).map (es.getD · 0)
theorem nd_map {l : List Nat} (nd : l.Nodup) {f : Nat → Int} (h : ∀ a ∈ l, ∀ b ∈ l, f a = f b → a = b) : (l.map f).Nodup := by
  unfold List.Nodup
  rw [List.pairwise_map]
  exact List.Pairwise.imp_of_mem (R := (· ≠ ·)) (fun {a b} ha hb ne e => ne (h a ha b hb e)) nd
theorem mv_perm (R : Ren es fs) : (mvA es fs es.length).Perm (mvB es fs es.length) := by
  refine (List.perm_ext_iff_of_nodup (nd_map (nd_range _ _) fun a ha b hb e => ?_) (nd_map (nd_range _ _) fun a ha b hb e => ?_)).mpr fun v => ?_
  · obtain ⟨ha1, ha2⟩ := List.mem_filter.mp ha
    obtain ⟨hb1, _⟩ := List.mem_filter.mp hb
    simp only [Bool.and_eq_true, Bool.not_eq_true', decide_eq_false_iff_not] at ha2
    exact R.injF (List.mem_range.mp ha1) (List.mem_range.mp hb1) e ha2.2
  · obtain ⟨ha1, ha2⟩ := List.mem_filter.mp ha
    obtain ⟨hb1, _⟩ := List.mem_filter.mp hb
    simp only [Bool.and_eq_true, Bool.not_eq_true', decide_eq_false_iff_not] at ha2
    exact R.inj (List.mem_range.mp ha1) (List.mem_range.mp hb1) e ha2.1
  · constructor
    · intro h
      obtain ⟨b, hb, rfl⟩ := List.mem_map.mp h
      obtain ⟨h1, h2⟩ := List.mem_filter.mp hb
      have lb := List.mem_range.mp h1
      simp only [Bool.and_eq_true, Bool.not_eq_true', decide_eq_false_iff_not] at h2
      have lf : b < fs.length := by rw [← R.len]; exact lb
      have me : fs.getD b 0 ∈ es := R.pm.mem_iff.mpr (mem_at lf)
      obtain ⟨i1, i2⟩ := at_idx me
      obtain ⟨j1, j2⟩ := at_idx (mem_at lf)
      refine List.mem_map.mpr ⟨es.idxOf (fs.getD b 0), List.mem_filter.mpr ⟨List.mem_range.mpr i1, ?_⟩, i2⟩
      rw [i2]
      simp only [Bool.and_eq_true, Bool.not_eq_true', decide_eq_false_iff_not]
      refine ⟨h2.2, fun e => h2.1 ?_⟩
      have jb : fs.idxOf (fs.getD b 0) = b := R.injF (by rw [R.len]; exact j1) lb j2 (by rw [j2]; exact h2.2)
      rw [e, jb] at i2
      exact i2.symm
    · intro h
      obtain ⟨b, hb, rfl⟩ := List.mem_map.mp h
      obtain ⟨h1, h2⟩ := List.mem_filter.mp hb
      have lb := List.mem_range.mp h1
      simp only [Bool.and_eq_true, Bool.not_eq_true', decide_eq_false_iff_not] at h2
      have mf : es.getD b 0 ∈ fs := R.pm.mem_iff.mp (mem_at lb)
      obtain ⟨i1, i2⟩ := at_idx mf
      obtain ⟨j1, j2⟩ := at_idx (mem_at lb)
      refine List.mem_map.mpr ⟨fs.idxOf (es.getD b 0), List.mem_filter.mpr ⟨List.mem_range.mpr (by rw [R.len]; exact i1), ?_⟩, i2⟩
      rw [i2]
      simp only [Bool.and_eq_true, Bool.not_eq_true', decide_eq_false_iff_not]
      refine ⟨fun e => h2.2 ?_, h2.1⟩
      exact R.inj j1 (by rw [R.len]; exact i1) (j2.trans e) (by rw [j2]; exact h2.1)
/-! sorting -/
theorem srt_uniq {a b : List Int} (pm : a.Perm b) (ha : a.Pairwise (· ≤ ·)) (hb : b.Pairwise (· ≤ ·)) : a = b := List.Perm.eq_of_pairwise (fun x y _ _ h1 h2 => by omega) ha hb pm
end
end RQ
/-! x is not None, as a value -/
namespace Rv
open PySem PySem.Spec PyProof.Rows L2
def rNotNQ : R2 := fun x y H Q => y = .non ∧ Q (.bl (!decide (x = .non))) H
theorem op_notNQ {X : Cx} : OpR X (compareOp .IsNot) rNotNQ := op_notN
theorem rd_notNQ {H : Hp} {Q : VK} {v : V} (q : Q (.bl (!decide (v = .non))) H) : rNotNQ v .non H Q := ⟨rfl, q⟩
end Rv
/-! for k38: tuples whose object may be known or not; a box with one cell; the size of a set -/
namespace Rv
open PySem PySem.Spec PyProof.Rows L2
def TG (H : Hp) (a : Addr) (es : List Int) : Prop := H a = some (.tup (es.map V.int)) ∨ GT H a es
section
variable {H H' : Hp} {a b p : Addr} {es : List Int} {B : Box} {xs : List V} {o : HO} {K : PySem.W.Frag} {Q : VK}
theorem TG.of (h : H a = some (.tup (es.map V.int))) : TG H a es := .inl h
theorem TG.sq (h : TG H a es) : SqT K H a (es.map V.int) := h.elim SqT.of GT.sq
theorem TG.keep (h : TG H a es) (k : ∀ o, H a = some o → H' a = some o) : TG H' a es := h.imp (k _) fun ⟨o, e, d⟩ => ⟨o, k _ e, d⟩
theorem TG.same (h : TG H a es) (S : Same H H') : TG H' a es := h.keep fun o e => S _ _ e
theorem TG.nl (h : TG H a es) : H a ≠ some (.lst xs) := fun e => by
  rcases h with h | ⟨o, h, _⟩ <;> rw [e] at h <;> cases h
theorem TG.nem (h : TG H a es) (i : B.I H) : a ∉ B.m := fun k => by
  obtain ⟨ys, e⟩ := B.live _ i a (B.sub _ k)
  exact h.nl e
theorem TG.wg (h : TG H a es) (w : Wg B H H') : TG H' a es := h.keep fun o e => w.keep a o (h.nem w.i0) e
theorem GT.wg (h : GT H a es) (w : Wg B H H') : GT H' a es := by
  obtain ⟨o, e, d⟩ := id h
  exact ⟨o, w.keep a _ (TG.nem (.inr h) w.i0) e, d⟩
/-! readings -/
theorem rd_ixO {v : V} {i : Int} (g : TG H p es) (e : atI (es.map V.int) i = some v) (q : Q v H) : rIxT K (.ref p) (.int i) H Q := ⟨p, _, i, v, rfl, rfl, g.sq, e, q⟩
theorem rd_lenO (g : TG H p es) (q : Q (.int (es.length : Nat)) H) : rLenQ K [.ref p] H Q := ⟨p, _, rfl, .inr g.sq, by rw [List.length_map]; exact q⟩
theorem rd_inO {x : V} (h : TG H p es) (fx : flatV x = true) (q : Q (.bl (inV x (es.map V.int))) H) : rIn K false x (.ref p) H Q := ⟨p, _, rfl, .inr h.sq, fx, ints_flat es, q⟩
theorem rd_slO {lo hi : Option Int} (h : TG H p es) (no : ¬ (HT.sIx es.length 0 lo = 0 ∧ HT.sIx es.length es.length hi = es.length)) (q : NewL (.tup (cutV (es.map V.int) lo hi)) Q H) : rSlT K (.ref p) lo hi H Q := ⟨p, _, rfl, h.sq, by rw [List.length_map]; exact no, q⟩
theorem rd_lstO (h : TG H p es) (q : NewL (.lst (es.map V.int)) Q H) : rLstQ K [.ref p] H Q := ⟨p, _, rfl, .inr h.sq, q⟩
theorem rd_ItO {R : It → Hp → Prop} (h : TG H p es) (q : R (Itt K p) H) : ItT K R (.ref p) H := ⟨p, rfl, ⟨_, h.sq⟩, q⟩
theorem rd_ZpO {R : It → Hp → Prop} {fs : List Int} (h : TG H a es) (h2 : TG H b fs) (q : R (RZ.ItzT K a b) H) : ZpA K R [.ref a, .ref b] H := ⟨a, b, _, _, rfl, .inr ⟨h.sq, h2.sq, q⟩⟩
theorem rd_cat3O {fs : List Int} (h : TG H a es) (h2 : TG H b fs) (l : es.length + fs.length ≤ 1000) (q : ∀ H2 p, Same H H2 → TG H2 p (es ++ fs) → Q (.ref p) H2) : rCat3 K (.ref a) (.ref b) H Q :=
  ⟨a, b, _, _, rfl, rfl, h.sq, h2.sq, Nat.le_of_lt (small1000 (by rw [List.length_map, List.length_map]; omega)),
    fun e => q H b (Same.refl _) (by have : es = [] := List.map_eq_nil_iff.mp e; rw [this]; exact h2),
    fun _ e => q H a (Same.refl _) (by have : fs = [] := List.map_eq_nil_iff.mp e; rw [this, List.append_nil]; exact h),
    fun _ _ p np => q _ p (same_new (Same.refl _) np) (.of (by rw [upd_same, List.map_append]))⟩
end
/-! isinstance, enumerate, sorted of a tuple of either make -/
def rIsO (K : PySem.W.Frag) : List V → Hp → VK → Prop := fun xs H Q => rIsi K xs H Q ∨ rIsG xs H Q
theorem call_isO {X : Cx} : CallR X (.builtin "isinstance") (rIsO X.K) := fun pins s σ H xs us Q I r h => h.elim (call_isi pins s σ H xs us Q I r) (call_isG pins s σ H xs us Q I r)
def EnO (R : It → Hp → Prop) (vs : List V) (H1 : Hp) : Prop := ∃ (a : Addr) (es : List Int), vs = [.ref a] ∧ TG H1 a es ∧ ∀ G : Hp → Prop, (∀ H2, Same H1 H2 → G H2) → R (Jen (es.map V.int).length G (fun i => (es.map V.int)[i]?)) H1
def iEnO (ta : TA) : TI := fun σ H R => ta σ H fun vs H1 => EnO R vs H1
theorem pi_enO {X : Cx} {e : Expr} {ta : TA} {p pos tpos : Pos} {elts : List Expr} {kk : Nat} (hg : Gl X "enumerate") (hm : X.mg "enumerate" = none) (ha : PA X [e] ta) (hs : starEach [e] X.env = [(false, eval e X.env)] := by rfl) :
    PI X (.Tuple elts kk tpos) (.Call (.Name "enumerate" p) [e] [] pos) (iEnO ta) := by
  refine ⟨fun pins s σ H R I h => Call_ (ld_blt I hg hm boot_enumerate (PyProof.Rows.callWith_type1 (thn (ha.run pos pins s σ H _ I h) fun us s1 q0 => ?_) hs rfl))⟩
  obtain ⟨vs, H1, I1, r1, a, es, rfl, hT, q⟩ := q0
  cases r1 with
  | cons r rr =>
    cases rr
    cases r
    obtain ⟨its, rv, hI, _⟩ := I1.tuple (show SqT X.K H1 a (es.map V.int) from hT.sq)
    refine enum1 (begins_tuple a its.toArray) hI fun h' he ho hk => wpAny_pyIter_enum he ?_
    have I2 : Inv X pins σ H1 { s1 with heap := h' } := I1.kept (t' := s1.toks) hk
    have fin : ∀ b ∈ [s1.heap.objs.size + 1, s1.heap.objs.size], FpOk X pins H1 b := fun b hb => by
      have le : s1.heap.objs.size ≤ b := by
        rcases List.mem_cons.mp hb with z | z
        · rw [z]; exact Nat.le_succ _
        · rw [show b = s1.heap.objs.size by simpa using z]; exact Nat.le_refl _
      exact I1.fpOk le (I1.hok.fresh le)
    rcases hT with hT | ⟨o, hT, _⟩
    · exact ⟨s1.heap.objs.size + 1, [s1.heap.objs.size + 1, s1.heap.objs.size], _, _, H1, rfl, I2, turn_jen (feed_tup s1.heap.objs.size a (es.map V.int)) (Nat.succ_ne_self _), ⟨⟨.none, he⟩, ⟨_, ho, rfl, rfl⟩⟩, fin, q _ fun H2 S => S _ _ hT⟩
    · exact ⟨s1.heap.objs.size + 1, [s1.heap.objs.size + 1, s1.heap.objs.size], _, _, H1, rfl, I2, turn_jen (feed_tupG s1.heap.objs.size a o (es.map V.int)) (Nat.succ_ne_self _), ⟨⟨.none, he⟩, ⟨_, ho, rfl, rfl⟩⟩, fin, q _ fun H2 S => S _ _ hT⟩
def rSortO (K : PySem.W.Frag) : List V → Hp → VK → Prop := fun vs H Q => ∃ (a : Addr) (ns : List Int), vs = [V.ref a] ∧ SqT K H a (ns.map V.int) ∧ ns.length < 64 ∧
  ∀ (ms : List Int) (p : Addr), ms.Perm ns → ms.Pairwise (· ≤ ·) → H p = none → Q (.ref p) (upd H p (.lst (ms.map V.int)))
theorem cr_sortO {X : Cx} : CallR X (.builtin "sorted") (rSortO X.K) := by
  intro pins s σ H vs us Q I r h
  obtain ⟨a, ns, rfl, hs, few, q⟩ := h
  obtain ⟨its, rv, it, _⟩ := I.tuple hs
  rw [Vals.ref1 r]
  have num := rv.ints
  refine sortT it num (by rw [num.length]; exact few) fun out ms b1 b2 b3 => ?_
  obtain ⟨ep, at2⟩ := sortedAll_at s.heap its out
  have ln : (ms.map V.int).length ≤ sizeLine := by
    rw [List.length_map, b2.length_eq]
    exact small64 few
  exact ⟨.ref _, upd H (s.heap.objs.size + 1) (.lst (ms.map V.int)), I.laid (t' := s.toks) (fun _ _ => sortedAll_old) (Nat.le_succ _) ⟨ln, out.toList, ep, vals_of_ints b1, at2⟩, rfl, q ms _ b2 b3 (I.hok.fresh (Nat.le_succ _))⟩
/-- len(s), s a set of whole numbers -/
def rLenSO (w : World) : List V → Hp → VK → Prop := fun xs H Q => ∃ (a : Addr) (ns : List Int) (n : Nat), xs = [.ref a] ∧ H a = some (SetO w a (fun j => decide (j ∈ ns)) n) ∧ ((∃ ks : List Int, ks.Nodup ∧ (∀ k, k ∈ ks ↔ k ∈ ns) ∧ ks.length = n) → Q (.int n) H)
theorem call_lenSO {X : Cx} : CallR X (.builtin "len") (rLenSO X.w) := by
  intro pins s σ H xs us Q I r h
  obtain ⟨a, ns, n, rfl, ha, q⟩ := h
  rw [Vals.ref1 r]
  obtain ⟨o, es, ep, t, ho, hex, hd, _, nd, mem, lt, hf, hn, _⟩ := setO_get I ha
  refine call_len_set ho hex hd hf (by unfold scanBound at lt; omega) ⟨.int n, H, I.tok _, ⟨_, by rw [hn]⟩, q ⟨_, nd, fun k => (mem k).symm.trans decide_eq_true_iff, by rw [List.length_map, Array.length_toList, hn]⟩⟩
section
variable {H : Hp} {K : PySem.W.Frag} {w : World} {Q : VK} {p a : Addr} {es ns : List Int} {n : Nat} {xs : List V}
theorem rd_isO (g : TG H p es) (q : Q (.bl true) H) : rIsO K [.ref p, .ty "tuple"] H Q := g.elim (fun h => .inl (rd_isiT h kit_tt q)) fun h => .inr (rd_isG h q)
theorem rd_isOL (h : H p = some (.lst xs)) (q : Q (.bl false) H) : rIsO K [.ref p, .ty "tuple"] H Q := .inl (rd_isiL h kit_lt q)
theorem rd_iEnO {ta : TA} {σ : L2.St} {R : It → Hp → Prop} (q : ta σ H fun vs H1 => EnO R vs H1) : iEnO ta σ H R := q
theorem rd_EnO {R : It → Hp → Prop} (g : TG H p es) (q : ∀ G : Hp → Prop, (∀ H2, Same H H2 → G H2) → R (Jen (es.map V.int).length G (fun i => (es.map V.int)[i]?)) H) : EnO R [.ref p] H := ⟨p, es, rfl, g, q⟩
theorem rd_sortO (h : TG H a es) (few : es.length < 64) (q : ∀ (H2 : Hp) (p : Addr) (ms : List Int), Same H H2 → H p = none → H2 p = some (.lst (ms.map V.int)) → ms.Perm es → ms.Pairwise (· ≤ ·) → Q (.ref p) H2) : rSortO K [.ref a] H Q :=
  ⟨a, es, rfl, h.sq, few, fun ms p pm pw np => q _ p ms (same_new (Same.refl _) np) np upd_same pm pw⟩
theorem rd_lenSO (h : H a = some (SetO w a (fun j => decide (j ∈ ns)) n)) (q : (∃ ks : List Int, ks.Nodup ∧ (∀ k, k ∈ ks ↔ k ∈ ns) ∧ ks.length = n) → Q (.int n) H) : rLenSO w [.ref a] H Q := ⟨a, ns, n, rfl, h, q⟩
end
/-- how many different ones -/
theorem card_nodup {ns ks : List Int} (nd : ns.Nodup) (k1 : ks.Nodup) (k2 : ∀ k, k ∈ ks ↔ k ∈ ns) : ks.length = ns.length := ((List.perm_ext_iff_of_nodup k1 nd).mpr k2).length_eq
theorem nd_sub : ∀ {ks ns : List Int}, ks.Nodup → (∀ k ∈ ks, k ∈ ns) → ks.length ≤ ns.length
  | [], _, _, _ => Nat.zero_le _
  | x :: r, ns, nd, h => by
    have nd2 := List.nodup_cons.mp nd
    have hx := h x (List.mem_cons_self ..)
    have := nd_sub (ks := r) (ns := ns.erase x) nd2.2 fun k hk => (List.mem_erase_of_ne (fun e => nd2.1 (by rw [← e]; exact hk))).mpr (h k (List.mem_cons_of_mem _ hk))
    rw [List.length_erase_of_mem hx] at this
    have : 0 < ns.length := List.length_pos_of_mem hx
    rw [List.length_cons]
    omega
theorem card_dup : ∀ {ns ks : List Int}, ¬ ns.Nodup → ks.Nodup → (∀ k, k ∈ ks ↔ k ∈ ns) → ks.length < ns.length
  | [], _, h, _, _ => absurd List.nodup_nil h
  | x :: r, ks, h, nd, m => by
    rw [List.length_cons]
    by_cases z : x ∈ r
    · have := nd_sub (ns := r) nd fun k hk => by
        rcases List.mem_cons.mp ((m k).mp hk) with e | e
        · rw [e]; exact z
        · exact e
      omega
    · have hr : ¬ r.Nodup := fun n => h (List.nodup_cons.mpr ⟨z, n⟩)
      have hx : x ∈ ks := (m x).mpr (List.mem_cons_self ..)
      have := card_dup (ks := ks.erase x) hr (nd.erase x) fun k => by
        constructor
        · intro hk
          rcases List.mem_cons.mp ((m k).mp (List.mem_of_mem_erase hk)) with e | e
          · rw [e] at hk
            exact absurd hk nd.not_mem_erase
          · exact e
        · intro hk
          have ne : k ≠ x := fun e => z (by rw [← e]; exact hk)
          exact (List.mem_erase_of_ne ne).mpr ((m k).mpr (List.mem_cons_of_mem _ hk))
      rw [List.length_erase_of_mem hx] at this
      have : 0 < ks.length := List.length_pos_of_mem hx
      omega
/-! the box: [cell, whether it is great, a lesser one, how many were taken] -/
def bkL (b : Addr) : Box where
  b := b
  m := [b]
  fp := [b]
  I H := ∃ A f M c : Int, H b = some (.lst [.int A, .int f, .int M, .int c])
  sub a ha := ha
  live H i a ha := by
    obtain ⟨_, _, _, _, h⟩ := i
    rw [List.mem_singleton.mp ha]
    exact ⟨_, h⟩
  frame H H' i k := by
    obtain ⟨A, f, M, c, h⟩ := i
    exact ⟨A, f, M, c, by rw [k b (List.mem_singleton.mpr rfl)]; exact h⟩
def IsBk (B : Box) : Prop := ∃ b, B = bkL b
theorem bk_put {b : Addr} {H0 H : Hp} {A f M c : Int} (w : Wg (bkL b) H0 H) : Wg (bkL b) H0 (upd H b (.lst [.int A, .int f, .int M, .int c])) :=
  ⟨fun a o ha e => by
    have nb : a ≠ b := fun z => ha (by rw [z]; exact List.mem_singleton.mpr rfl)
    rw [upd_ne nb]
    exact w.keep a o ha e, w.i0, ⟨A, f, M, c, upd_same⟩⟩
/-! images that may be wrong -/
def EOk (e : Int) : Prop := -1 ≤ e ∧ e ≤ 999
instance (e : Int) : Decidable (EOk e) := by unfold EOk; exact inferInstance
def IB (M : List Addr) (H : Hp) (v : V) (k : Int) : Prop :=
  (k = -1 ∧ ((∃ p xs, v = .ref p ∧ p ∉ M ∧ H p = some (.lst xs)) ∨ (∃ p es, v = .ref p ∧ TG H p es ∧ (es.length = 0 ∨ 12 < es.length) ∧ es.length ≤ 1000))) ∨
  (∃ (a : Addr) (es : List Int) (j : Nat), v = .ref a ∧ TG H a es ∧ 1 ≤ es.length ∧ es.length ≤ 12 ∧ k = (j : Int) ∧ j < es.length ∧ ¬ EOk (es.getD j 0) ∧ ∀ i : Nat, i < j → EOk (es.getD i 0))
theorem IB.keep {M : List Addr} {H H' : Hp} {v : V} {k : Int} (h : IB M H v k) (kp : ∀ a o, (a ∉ M ∨ ∀ xs, o ≠ .lst xs) → H a = some o → H' a = some o) : IB M H' v k := by
  have tg : ∀ {p es}, TG H p es → TG H' p es := fun {p es} t => t.keep fun o e => kp _ _ (.inr fun xs z => by rw [z] at e; exact t.nl e) e
  rcases h with ⟨e, ⟨p, xs, e2, n, h⟩ | ⟨p, es, e2, h, l⟩⟩ | ⟨a, es, j, e, h, r⟩
  · exact .inl ⟨e, .inl ⟨p, xs, e2, n, kp _ _ (.inl n) h⟩⟩
  · exact .inl ⟨e, .inr ⟨p, es, e2, tg h, l⟩⟩
  · exact .inr ⟨a, es, j, e, tg h, r⟩
theorem IB.same {M : List Addr} {H H' : Hp} {v : V} {k : Int} (h : IB M H v k) (S : Same H H') : IB M H' v k := h.keep fun a o _ e => S a o e
/-- a good image -/
def IG (H : Hp) (v : V) (es : List Int) : Prop := ∃ a, v = .ref a ∧ TG H a es ∧ Img es
theorem IG.same {H H' : Hp} {v : V} {es : List Int} (h : IG H v es) (S : Same H H') : IG H' v es := by
  obtain ⟨a, e, t, i⟩ := h
  exact ⟨a, e, t.same S, i⟩
end Rv
/-! for k38: pairs that are right, and those that are not; careful lines -/
namespace Rv
open PySem PySem.Spec PyProof.Rows L2 RL RQ
theorem TG.inj {H : Hp} {a : Addr} {es fs : List Int} (h : TG H a es) (k : TG H a fs) : es = fs := by
  have im : ∀ {x y : List Int}, x.map V.int = y.map V.int → x = y := fun {x y} e => List.map_inj_right (fun a b h => V.int.inj h) |>.mp e
  rcases h with h | ⟨o, h, _⟩ <;> rcases k with k | ⟨o2, k, _⟩
  · rw [h] at k; injection k with k; injection k with k; exact im k
  · rw [h] at k; injection k with k; cases k
  · rw [h] at k; injection k with k; cases k
  · rw [h] at k; injection k with k; injection k with k1 k; injection k with k; exact im k
theorem IG.img {H : Hp} {v : V} {es : List Int} (h : IG H v es) : Img es := by obtain ⟨_, _, _, i⟩ := h; exact i
/-- which image of two is wrong -/
def PB (M : List Addr) (H : Hp) (v1 v2 : V) (k : Int) : Prop := IB M H v1 k ∨ (∃ es, IG H v1 es ∧ IB M H v2 k)
theorem PB.same {M : List Addr} {H H' : Hp} {v1 v2 : V} {k : Int} (h : PB M H v1 v2 k) (S : Same H H') : PB M H' v1 v2 k := h.imp (fun z => z.same S) fun ⟨es, a, b⟩ => ⟨es, a.same S, b.same S⟩
/-- a rename pair, both tuples known -/
structure RP (H : Hp) (a b : Addr) (es fs : List Int) : Prop where
  ga : GT H a es
  gb : GT H b fs
  ia : Img es
  ib : Img fs
  rn : Ren es fs
theorem RP.same {H H' : Hp} {a b : Addr} {es fs : List Int} (h : RP H a b es fs) (S : Same H H') : RP H' a b es fs := ⟨h.ga.same S, h.gb.same S, h.ia, h.ib, h.rn⟩
theorem RP.ta {H : Hp} {a b : Addr} {es fs : List Int} (h : RP H a b es fs) : TG H a es := .inr h.ga
theorem RP.tb {H : Hp} {a b : Addr} {es fs : List Int} (h : RP H a b es fs) : TG H b fs := .inr h.gb
def PairS (K : PySem.W.Frag) (H : Hp) (v1 v2 : V) (E : XK) (Qg : Addr → Addr → List Int → List Int → Prop) : Prop :=
  (∃ a b es fs, v1 = .ref a ∧ v2 = .ref b ∧ RP H a b es fs ∧ Qg a b es fs) ∨
  (∃ M k, PB M H v1 v2 k ∧ ∀ H' d, Same H H' → H' d = some (.xd [("block", .int k)]) → E (.ref (atTop K "InvalidImage")) (some d) H') ∨
  (∃ es fs, IG H v1 es ∧ IG H v2 fs ∧ ¬ Ren es fs ∧ ∀ H', Same H H' → E (.ref (atTop K "NotRenaming")) none H')
/-- where the values come from -/
def ldL (es fs : List Int) : List Int := fs.map fun e => if e = -1 then -1 else (es.idxOf e : Int)
theorem ldL_len (es fs : List Int) : (ldL es fs).length = fs.length := List.length_map ..
theorem ldL_at {es fs : List Int} {b : Nat} (h : b < fs.length) : atI ((ldL es fs).map V.int) (b : Int) = some (.int (if fs.getD b 0 = -1 then -1 else ((G es fs b : Nat) : Int))) := by
  refine atI_nat ?_
  unfold ldL
  rw [List.getElem?_map, List.getElem?_map, get_at h]
  show some (V.int (if fs.getD b 0 = -1 then -1 else ((es.idxOf (fs.getD b 0) : Nat) : Int))) = _
  unfold G
  by_cases z : fs.getD b 0 = -1
  · rw [if_pos z, if_pos z]
  · rw [if_neg z, if_neg z, if_neg z]
theorem rd_neL {K : PySem.W.Frag} {H : Hp} {Q : VK} {p p2 : Addr} {xs ys : List Int} (h : H p = some (.lst (xs.map V.int))) (h2 : H p2 = some (.lst (ys.map V.int))) (q : Q (.bl (!decide (xs = ys))) H) : rNeD K (.ref p) (.ref p2) H Q := by
  obtain ⟨d1, d2, a1, a2, s1, s2, q2⟩ := rd_eqL (K := K) (Q := fun v H' => ∃ b, v = .bl b ∧ Q (.bl (!b)) H') h h2 ⟨_, rfl, q⟩
  obtain ⟨b, e, q3⟩ := q2
  refine ⟨d1, d2, a1, a2, s1, s2, ?_⟩
  have := V.bl.inj e
  rw [this]
  exact q3
/-- t.index(k) of whole numbers -/
theorem rd_tixI {i j : Nat} {σ : L2.St} {H : Hp} {Q : VK} {p : Addr} {ns : List Int} {k : Int} (hv : σ[i]? = some (some (.ref p))) (hw : σ[j]? = some (some (.int k))) (g : GT H p ns) (m : k ∈ ns) (q : Q (.int (ns.idxOf k : Nat)) H) : tTix (tVar i) (tVar j) σ H Q :=
  ⟨_, hv, p, ns, rfl, g, _, hw, k, rfl, g, m, q⟩
/-- a careful line -/
def Care (r : Ln) : Prop := r.w = sMove ∧ r.g ≠ [] ∧ r.g.getD r.t.toNat 0 = 46
theorem wfOk {n : Nat} {r : Ln} (k : LnOk n r) (n12 : n ≤ 12) : Wf (.tup r.vals) := fun _ => ⟨r, rfl, by have := k.gle; omega⟩
/-! the first number that does not stand in a list -/
structure Cand (c : Nat → Int) (found : List Int) (k j : Nat) (v : Int) : Prop where
  eq : v = c k
  le : k ≤ j
  old : ∀ i, i < k → c i ∈ found
  new : v ∉ found ∨ k = j
theorem Cand.zero {c : Nat → Int} {found : List Int} : Cand c found 0 0 (c 0) := ⟨rfl, Nat.le_refl _, fun i h => absurd h (Nat.not_lt_zero i), .inr rfl⟩
theorem Cand.stay {c : Nat → Int} {found : List Int} {k j : Nat} {v : Int} (h : Cand c found k j v) (n : v ∉ found) : Cand c found k (j + 1) v := ⟨h.eq, Nat.le_succ_of_le h.le, h.old, .inl n⟩
theorem Cand.step {c : Nat → Int} {found : List Int} {k j : Nat} {v : Int} (h : Cand c found k j v) (m : v ∈ found) : Cand c found (k + 1) (j + 1) (c (k + 1)) := by
  have e : k = j := h.new.resolve_left fun n => n m
  exact ⟨rfl, by omega, fun i hi => by
    by_cases z : i = k
    · rw [z, ← h.eq]; exact m
    · exact h.old i (by omega), .inr (by omega)⟩
theorem Cand.done {c : Nat → Int} {found : List Int} {k j : Nat} {v : Int} (h : Cand c found k j v) (l : found.length ≤ j) (inj : ∀ a b, a ≤ j → b ≤ j → c a = c b → a = b) : v ∉ found := fun m => by
  have e : k = j := h.new.resolve_left fun n => n m
  have nd : ((List.range (j + 1)).map c).Nodup := nd_map List.nodup_range fun a ha b hb e2 => inj a b (by have := List.mem_range.mp ha; omega) (by have := List.mem_range.mp hb; omega) e2
  have := nd_sub nd (ns := found) fun x hx => by
    obtain ⟨a, ha, rfl⟩ := List.mem_map.mp hx
    have := List.mem_range.mp ha
    by_cases z : a = k
    · rw [z, ← h.eq]; exact m
    · exact h.old a (by omega)
  rw [List.length_map, List.length_range] at this
  omega
/-- the values of one hundred, from v on -/
def c100 (v : Int) (k : Nat) : Int := v / 100 * 100 + (v + k) % 100
theorem c100_next (v : Int) (k : Nat) : c100 v (k + 1) = (c100 v k).fdiv 100 * 100 + (c100 v k + 1).fmod 100 := by
  unfold c100
  rw [Int.fdiv_eq_ediv_of_nonneg _ (by decide), Int.fmod_eq_emod_of_nonneg _ (by decide)]
  omega
theorem c100_zero (v : Int) : c100 v 0 = v := by unfold c100; omega
theorem c100_inj (v : Int) (a b : Nat) (ha : a ≤ 12) (hb : b ≤ 12) (e : c100 v a = c100 v b) : a = b := by unfold c100 at e; omega
theorem c100_in {v : Int} (h0 : 0 ≤ v) (h1 : v ≤ 999) (k : Nat) : 0 ≤ c100 v k ∧ c100 v k ≤ 999 := by unfold c100; omega
def c1000 (v : Int) (k : Nat) : Int := (v + k) % 1000
theorem c1000_next (v : Int) (k : Nat) : c1000 v (k + 1) = (c1000 v k + 1).fmod 1000 := by
  unfold c1000
  rw [Int.fmod_eq_emod_of_nonneg _ (by decide)]
  omega
theorem c1000_inj (v : Int) (a b : Nat) (ha : a ≤ 13) (hb : b ≤ 13) (e : c1000 v a = c1000 v b) : a = b := by unfold c1000 at e; omega
/-! laying, exchanging -/
theorem set_perm {l : List Int} {i : Nat} {x v : Int} (h : l[i]? = some x) : (l.set i v).Perm (v :: l.eraseIdx i) ∧ l.Perm (x :: l.eraseIdx i) := by
  obtain ⟨hi, e⟩ := List.getElem?_eq_some_iff.mp h
  have p : ∀ y : Int, (l.take i ++ y :: l.drop (i + 1)).Perm (y :: l.eraseIdx i) := fun y => by
    rw [List.eraseIdx_eq_take_drop_succ]
    exact List.perm_middle
  constructor
  · rw [List.set_eq_take_append_cons_drop, if_pos hi]
    exact p v
  · have := p x
    rw [← e, ← List.drop_eq_getElem_cons hi, List.take_append_drop] at this
    rw [← e]
    exact this
theorem set_set_perm {l : List Int} {i j : Nat} (hi : i < l.length) (hj : j < l.length) : ((l.set i (l.getD j 0)).set j (l.getD i 0)).Perm l := by
  by_cases e : i = j
  · subst e
    have h : l.getD i 0 = l[i] := getD_get hi
    rw [h, List.set_set, List.set_getElem_self hi]
  · have h1 := (set_perm (v := l.getD j 0) (get_at hi))
    have g : (l.set i (l.getD j 0))[j]? = some (l.getD j 0) := by rw [List.getElem?_set_ne e]; exact get_at hj
    have h2 := set_perm (v := l.getD i 0) g
    have a := List.Perm.cons_inv (h1.1.symm.trans h2.2)
    exact h2.1.trans ((a.symm.cons _).trans h1.2.symm)
theorem set3_perm {l : List Int} {i j k : Nat} (hi : i < l.length) (hj : j < l.length) (hk : k < l.length) (ij : i ≠ j) (ik : i ≠ k) (jk : j ≠ k) : (((l.set i (l.getD j 0)).set j (l.getD k 0)).set k (l.getD i 0)).Perm l := by
  have hl : (l.set i (l.getD j 0)).length = l.length := List.length_set ..
  have e1 : (l.set i (l.getD j 0)).getD k 0 = l.getD k 0 := by
    rw [List.getD_eq_getElem?_getD, List.getElem?_set_ne ik, ← List.getD_eq_getElem?_getD]
  have e2 : (l.set i (l.getD j 0)).getD j 0 = l.getD j 0 := by
    rw [List.getD_eq_getElem?_getD, List.getElem?_set_ne ij, ← List.getD_eq_getElem?_getD]
  have m := set_set_perm (l := l.set i (l.getD j 0)) (i := j) (j := k) (by rw [hl]; exact hj) (by rw [hl]; exact hk)
  rw [e1, e2] at m
  have g : (((l.set i (l.getD j 0)).set j (l.getD k 0)).set k (l.getD j 0))[k]? = some (l.getD j 0) := List.getElem?_set_self (by rw [List.length_set, hl]; exact hk)
  have h1 := set_perm (v := l.getD i 0) g
  rw [List.set_set] at h1
  have h2 := set_perm (v := l.getD j 0) (get_at hi)
  have a := List.Perm.cons_inv ((h1.2.symm.trans m).trans h2.1)
  exact h1.1.trans ((a.cons _).trans h2.2.symm)
/-- int(i), int(b) -/
def rIntO : List V → Hp → VK → Prop := fun xs H Q => rIntQ xs H Q ∨ ∃ b, xs = [.bl b] ∧ Q (.int (if b = true then 1 else 0)) H
theorem call_intO {X : Cx} : CallR X (.type "int") rIntO := fun pins s σ H xs us Q I r h => call_int1 pins s σ H xs us Q I r h
theorem rd_intOB {b : Bool} {H : Hp} {Q : VK} (q : Q (.int (if b = true then 1 else 0)) H) : rIntO [.bl b] H Q := .inr ⟨b, rfl, q⟩
theorem rd_intOI {i : Int} {H : Hp} {Q : VK} (q : Q (.int i) H) : rIntO [.int i] H Q := .inl ⟨i, rfl, q⟩
end Rv
namespace Rv
open PySem PySem.Spec PyProof.Rows L2 RL RQ
theorem flat_one (n : Nat) (x : V) : (List.replicate n [x]).flatten = List.replicate n x := by
  induction n with
  | zero => rfl
  | succ n ih => rw [List.replicate_succ, List.flatten_cons, ih, List.replicate_succ]; rfl
theorem img_of {xs es : List Int} {n : Nat} (n1 : 1 ≤ n) (n12 : n ≤ 12) (l : xs.length ≤ n) (rg : ∀ x ∈ xs, 0 ≤ x ∧ x ≤ 999) (pm : es.Perm (xs ++ List.replicate (n - xs.length) (-1))) : Img es := by
  have le := pm.length_eq
  rw [List.length_append, List.length_replicate] at le
  refine ⟨by omega, by omega, fun e he => ?_⟩
  rcases List.mem_append.mp (pm.mem_iff.mp he) with h | h
  · have := rg e h
    omega
  · rw [(List.mem_replicate.mp h).2]
    exact ⟨by decide, by decide⟩
theorem full_app (a b : List Int) : full (a ++ b) = full a ++ full b := List.filter_append ..
theorem full_rep (n : Nat) : full (List.replicate n (-1)) = [] := by
  unfold full
  rw [List.filter_eq_nil_iff]
  intro a ha
  rw [(List.mem_replicate.mp ha).2]
  decide
theorem full_id {xs : List Int} (rg : ∀ x ∈ xs, 0 ≤ x) : full xs = xs := by
  unfold full
  rw [List.filter_eq_self]
  intro a ha
  have := rg a ha
  simp
  omega
theorem full_nd {xs es : List Int} {k : Nat} (rg : ∀ x ∈ xs, 0 ≤ x) (nd : xs.Nodup) (pm : es.Perm (xs ++ List.replicate k (-1))) : (full es).Nodup := by
  have p : (full es).Perm (full (xs ++ List.replicate k (-1))) := pm.filter _
  rw [full_app, full_rep, List.append_nil, full_id rg] at p
  exact p.nodup_iff.mpr nd
/-- without the empty ones, and as many empty ones behind them: the same entries -/
theorem full_back (es : List Int) : (full es ++ List.replicate (es.length - (full es).length) (-1)).Perm es := by
  induction es with
  | nil => exact List.Perm.refl _
  | cons x r ih =>
    have l := List.length_filter_le (fun x : Int => !decide (x = -1)) r
    have l : (full r).length ≤ r.length := l
    by_cases z : x = -1
    · have e : full (x :: r) = full r := List.filter_cons_of_neg (by simpa using z)
      rw [e, List.length_cons, show r.length + 1 - (full r).length = (r.length - (full r).length) + 1 by omega, List.replicate_succ, z]
      exact List.perm_middle.trans (ih.cons _)
    · have e : full (x :: r) = x :: full r := List.filter_cons_of_pos (by simpa using z)
      rw [e, List.length_cons, List.length_cons, show r.length + 1 - ((full r).length + 1) = r.length - (full r).length by omega]
      exact ih.cons _
theorem erase_nd {l : List Nat} (nd : l.Nodup) (i : Nat) : (l.eraseIdx i).Nodup := List.Pairwise.sublist (List.eraseIdx_sublist ..) nd
theorem erase_ne {l : List Nat} (nd : l.Nodup) {i x : Nat} (h : l[i]? = some x) : x ∉ l.eraseIdx i := fun m => by
  obtain ⟨j, hj⟩ := List.getElem?_of_mem m
  rw [List.getElem?_eraseIdx] at hj
  split at hj
  · have := nd_inj nd h hj; omega
  · have := nd_inj nd h hj; omega
theorem nvs_eraseIdx (l : List Nat) (i : Nat) : (nvs l).eraseIdx i = nvs (l.eraseIdx i) := by
  induction l generalizing i with
  | nil => rfl
  | cons x r ih =>
    cases i with
    | zero => rfl
    | succ i => show V.int (x : Int) :: (nvs r).eraseIdx i = V.int (x : Int) :: nvs (r.eraseIdx i); rw [ih]
theorem erase_mem {l : List Nat} {i x : Nat} (h : x ∈ l.eraseIdx i) : x ∈ l := (List.eraseIdx_sublist l i).mem h
theorem cutI_to (es : List Int) {i : Nat} (h : i ≤ es.length) : cutV (es.map V.int) none (some (i : Int)) = (es.take i).map V.int := by
  unfold cutV
  rw [HT.sIx_nat, HT.sIx_none, List.drop_zero, List.length_map, Nat.min_eq_left h, Nat.sub_zero, List.map_take]
theorem cutI_from (es : List Int) {i : Nat} (h : i ≤ es.length) : cutV (es.map V.int) (some (i : Int)) none = (es.drop i).map V.int := by
  unfold cutV
  rw [HT.sIx_nat, HT.sIx_none, List.length_map, Nat.min_eq_left h, ← List.map_drop, List.take_of_length_le (by rw [List.length_map, List.length_drop]; exact Nat.le_refl _)]
end Rv
namespace Rv
open PySem PySem.Spec PyProof.Rows L2 RL RQ
def sgS (e : Int) : Str := if e = -1 then Str.ofString "." else Str.ofString (toString (e.fdiv 100))
def othL (ls : List Int) (one n : Nat) : List Nat := (List.range n).filter fun j => !decide (V.int (ls.getD j 0) = V.int (ls.getD one 0))
def p2L (ls : List Int) (one j : Nat) : Bool := (!decide (V.int (ls.getD j 0) = V.int (-1))) && (!decide (V.int (ls.getD one 0) = V.int (-1)))
def p3L (ls : List Int) (one j : Nat) : Bool := decide (V.str (sgS (ls.getD j 0)) = V.str (sgS (ls.getD one 0)))
def partL (ls : List Int) (one way : Nat) : List Nat := if way = 1 then othL ls one ls.length else if way = 2 then (othL ls one ls.length).filter (p2L ls one) else (othL ls one ls.length).filter (p3L ls one)
theorem oth_lt {ls : List Int} {one n p : Nat} (h : p ∈ othL ls one n) : p < n := List.mem_range.mp (List.mem_filter.mp h).1
theorem oth_len (ls : List Int) (one n : Nat) : (othL ls one n).length ≤ n := by
  have := List.length_filter_le (fun j => !decide (V.int (ls.getD j 0) = V.int (ls.getD one 0))) (List.range n)
  rw [List.length_range] at this
  exact this
theorem part_lt {ls : List Int} {one way p : Nat} (h : p ∈ partL ls one way) : p < ls.length := by
  unfold partL at h
  split at h
  · exact oth_lt h
  · split at h <;> exact oth_lt (List.mem_filter.mp h).1
theorem part_len (ls : List Int) (one way : Nat) : (partL ls one way).length ≤ ls.length := by
  unfold partL
  have := oth_len ls one ls.length
  split
  · exact this
  · split <;> exact Nat.le_trans (List.length_filter_le _ _) this
theorem fl_next {p : Nat → Bool} {l : List Nat} {i : Nat} (h : i < l.length) : (l.take (i + 1)).filter p = (l.take i).filter p ++ if p l[i] = true then [l[i]] else [] := by
  rw [take_next h, List.filter_append]
  congr 1
  by_cases z : p l[i] = true
  · rw [if_pos z, List.filter_cons_of_pos z]; rfl
  · rw [if_neg z, List.filter_cons_of_neg z]; rfl
theorem fr_next {p : Nat → Bool} (i : Nat) : (List.range (i + 1)).filter p = (List.range i).filter p ++ if p i = true then [i] else [] := by
  rw [List.range_succ, List.filter_append]
  congr 1
  by_cases z : p i = true
  · rw [if_pos z, List.filter_cons_of_pos z]; rfl
  · rw [if_neg z, List.filter_cons_of_neg z]; rfl
end Rv
namespace Rv
open PySem PySem.Spec PyProof.Rows L2 RL RQ
def sImage : Str := Str.ofString "image"
def sRen : Str := Str.ofString "renaming"
/-- a bad pair and the error that is due -/
def BadC (H : Hp) (v1 v2 : V) (s : Str) (k : Int) : Prop := (s = sImage ∧ PB [] H v1 v2 k) ∨ (s = sRen ∧ k = 0 ∧ ∃ es fs, IG H v1 es ∧ IG H v2 fs ∧ ¬ Ren es fs)
theorem BadC.same {H H' : Hp} {v1 v2 : V} {s : Str} {k : Int} (h : BadC H v1 v2 s k) (S : Same H H') : BadC H' v1 v2 s k :=
  h.imp (fun ⟨e, b⟩ => ⟨e, b.same S⟩) fun ⟨e, e2, es, fs, a, b, n⟩ => ⟨e, e2, es, fs, a.same S, b.same S, n⟩
theorem set_get {es : List Int} {i j : Nat} {e : Int} (h : i < es.length) : (es.set i e).getD j 0 = if i = j then e else es.getD j 0 := by
  rw [List.getD_eq_getElem?_getD, List.getElem?_set]
  by_cases z : i = j
  · rw [if_pos z, if_pos z, if_pos h]; rfl
  · rw [if_neg z, if_neg z, List.getD_eq_getElem?_getD]
theorem ib_set {H : Hp} {a : Addr} {es : List Int} {i : Nat} {e : Int} (h : TG H a (es.set i e)) (I : Img es) (hi : i < es.length) (n : ¬ EOk e) : IB [] H (.ref a) (i : Int) := by
  refine .inr ⟨a, _, i, rfl, h, by rw [List.length_set]; exact I.1, by rw [List.length_set]; exact I.2.1, rfl, by rw [List.length_set]; exact hi, ?_, fun j hj => ?_⟩
  · rw [set_get hi, if_pos rfl]; exact n
  · rw [set_get hi, if_neg (by omega)]
    exact I.2.2 _ (mem_at (by omega))
theorem img_set {es : List Int} {i : Nat} {e : Int} (I : Img es) (h : EOk e) : Img (es.set i e) := ⟨by rw [List.length_set]; exact I.1, by rw [List.length_set]; exact I.2.1, fun x hx => by
  rcases List.mem_or_eq_of_mem_set hx with k | k
  · exact I.2.2 x k
  · rw [k]; exact h⟩
/-- not a rename pair -/
theorem no_new {es fs : List Int} {i : Nat} {v : Int} (hi : i < fs.length) (n : v ∉ es) : ¬ Ren es (fs.set i v) := fun R => n (R.pm.mem_iff.mpr (List.mem_of_getElem? (List.getElem?_set_self hi)))
theorem no_gone {es fs : List Int} {i : Nat} (R : Ren es fs) (hi : i < fs.length) (f : fs.getD i 0 ≠ -1) : ¬ Ren es (fs.set i (-1)) := fun R2 => by
  have m : fs.getD i 0 ∈ fs.set i (-1) := R2.pm.mem_iff.mp (R.pm.mem_iff.mpr (mem_at hi))
  obtain ⟨j, hj⟩ := List.getElem?_of_mem m
  have lj := (List.getElem?_eq_some_iff.mp hj).1
  rw [List.length_set] at lj
  have e : (fs.set i (-1)).getD j 0 = fs.getD i 0 := by rw [List.getD_eq_getElem?_getD, hj]; rfl
  rw [set_get hi] at e
  by_cases z : i = j
  · rw [if_pos z] at e; exact f e.symm
  · rw [if_neg z] at e
    exact z (R.injF (by rw [R.len]; exact hi) (by rw [R.len]; exact lj) e.symm f)
theorem no_twice {es fs : List Int} {i j : Nat} (hi : i < fs.length) (hj : j < fs.length) (f : fs.getD i 0 ≠ -1) (e : fs.getD j 0 = -1) : ¬ Ren es (fs.set j (fs.getD i 0)) := fun R => by
  have ne : j ≠ i := fun z => by rw [z] at e; exact f e
  have l := R.len
  rw [List.length_set] at l
  refine ne (R.injF (i := j) (j := i) (by omega) (by omega) ?_ ?_)
  · rw [set_get hj, set_get hj, if_pos rfl, if_neg ne]
  · rw [set_get hj, if_pos rfl]; exact f
def dblL (es : List Int) (g k : Int) : List Int := es.map fun e => if e = g then k else e
theorem dbl_get {es : List Int} {g k : Int} {i : Nat} (h : i < es.length) : (dblL es g k).getD i 0 = if es.getD i 0 = g then k else es.getD i 0 := by
  unfold dblL
  rw [List.getD_eq_getElem?_getD, List.getElem?_map, get_at h]; rfl
theorem no_dbl {es fs fs2 : List Int} {g k : Int} (R : Ren es fs) (hg : g ∈ fs) (hk : k ∈ fs) (ne : g ≠ k) (kf : k ≠ -1) : ¬ Ren (dblL es g k) fs2 := fun R2 => by
  obtain ⟨a1, a2⟩ := at_idx (R.pm.mem_iff.mpr hg)
  obtain ⟨b1, b2⟩ := at_idx (R.pm.mem_iff.mpr hk)
  have l : (dblL es g k).length = es.length := List.length_map ..
  have := R2.inj (i := es.idxOf g) (j := es.idxOf k) (by rw [l]; exact a1) (by rw [l]; exact b1) (by
    rw [dbl_get a1, dbl_get b1, a2, b2, if_pos rfl, if_neg (fun z => ne z.symm)]) (by rw [dbl_get a1, a2, if_pos rfl]; exact kf)
  rw [this, b2] at a2
  exact ne a2.symm
theorem img_dbl {es : List Int} {g k : Int} (I : Img es) (hk : EOk k) : Img (dblL es g k) := ⟨by unfold dblL; rw [List.length_map]; exact I.1, by unfold dblL; rw [List.length_map]; exact I.2.1, fun x hx => by
  obtain ⟨e, he, rfl⟩ := List.mem_map.mp hx
  split
  · exact hk
  · exact I.2.2 e he⟩
/-- the full and the empty blocks -/
def fulP (fs : List Int) (n : Nat) : List Nat := (List.range n).filter fun k => !decide (V.int (fs.getD k 0) = V.int (-1))
def empP (fs : List Int) (n : Nat) : List Nat := (List.range n).filter fun k => decide (V.int (fs.getD k 0) = V.int (-1))
def othP (fs : List Int) (g : Int) (l : List Nat) : List Nat := l.filter fun k => !decide (V.int (fs.getD k 0) = V.int g)
theorem mem_fulP {fs : List Int} {n k : Nat} : k ∈ fulP fs n ↔ k < n ∧ fs.getD k 0 ≠ -1 := by
  unfold fulP
  rw [List.mem_filter, List.mem_range, Bool.not_eq_true', decide_eq_false_iff_not]
  exact ⟨fun ⟨a, b⟩ => ⟨a, fun e => b (by rw [e])⟩, fun ⟨a, b⟩ => ⟨a, fun e => b (V.int.inj e)⟩⟩
theorem mem_empP {fs : List Int} {n k : Nat} : k ∈ empP fs n ↔ k < n ∧ fs.getD k 0 = -1 := by
  unfold empP
  rw [List.mem_filter, List.mem_range, decide_eq_true_eq]
  exact ⟨fun ⟨a, b⟩ => ⟨a, V.int.inj b⟩, fun ⟨a, b⟩ => ⟨a, by rw [b]⟩⟩
theorem mem_othP {fs : List Int} {g : Int} {l : List Nat} {k : Nat} : k ∈ othP fs g l ↔ k ∈ l ∧ fs.getD k 0 ≠ g := by
  unfold othP
  rw [List.mem_filter, Bool.not_eq_true', decide_eq_false_iff_not]
  exact ⟨fun ⟨a, b⟩ => ⟨a, fun e => b (by rw [e])⟩, fun ⟨a, b⟩ => ⟨a, fun e => b (V.int.inj e)⟩⟩
theorem fulP_len (fs : List Int) (n : Nat) : (fulP fs n).length ≤ n := by
  have := List.length_filter_le (fun k => !decide (V.int (fs.getD k 0) = V.int (-1))) (List.range n)
  rw [List.length_range] at this
  exact this
theorem empP_len (fs : List Int) (n : Nat) : (empP fs n).length ≤ n := by
  have := List.length_filter_le (fun k => decide (V.int (fs.getD k 0) = V.int (-1))) (List.range n)
  rw [List.length_range] at this
  exact this
theorem one_out : ∀ (l : List Nat) (p : Nat → Bool), l.Nodup → (∀ a ∈ l, ∀ b ∈ l, p a = false → p b = false → a = b) → l.length ≤ (l.filter p).length + 1
  | [], _, _, _ => Nat.zero_le _
  | x :: r, p, nd, h => by
    have nd2 := List.nodup_cons.mp nd
    by_cases z : p x = true
    · have := one_out r p nd2.2 fun a ha b hb => h a (List.mem_cons_of_mem _ ha) b (List.mem_cons_of_mem _ hb)
      rw [List.filter_cons_of_pos z, List.length_cons, List.length_cons]
      omega
    · have all : r.filter p = r := by
        rw [List.filter_eq_self]
        intro a ha
        cases y : p a with
        | true => rfl
        | false =>
          have := h x (List.mem_cons_self ..) a (List.mem_cons_of_mem _ ha) (by simpa using z) y
          rw [this] at nd2
          exact absurd ha nd2.1
      rw [List.filter_cons_of_neg z, all, List.length_cons]
      omega
theorem othP_len {es fs : List Int} (R : Ren es fs) {g : Int} : (fulP fs fs.length).length ≤ (othP fs g (fulP fs fs.length)).length + 1 := by
  refine one_out _ _ (nd_range _ _) fun a ha b hb h1 h2 => ?_
  obtain ⟨a1, a2⟩ := mem_fulP.mp ha
  obtain ⟨b1, b2⟩ := mem_fulP.mp hb
  have e1 : fs.getD a 0 = g := by simpa using h1
  have e2 : fs.getD b 0 = g := by simpa using h2
  exact R.injF (by rw [R.len]; exact a1) (by rw [R.len]; exact b1) (e1.trans e2.symm) a2
end Rv
namespace Rv
open PySem PySem.Spec PyProof.Rows L2 RL RQ
theorem niz_take (p : List Nat) (i : Nat) : (niz p).take i = niz (p.take i) := by unfold niz; rw [List.map_take]
theorem cutN_to (p : List Nat) {i : Nat} (h : i ≤ p.length) : cutV (nvs p) none (some (i : Int)) = nvs (p.take i) := by
  have := cutI_to (niz p) (i := i) (by rw [niz_len]; exact h)
  rw [niz_take] at this
  exact this
theorem nin_take {p : List Nat} (nd : p.Nodup) {i : Nat} (hi : i < p.length) : p[i] ∉ p.take i := fun m => by
  obtain ⟨j, hj⟩ := List.getElem?_of_mem m
  rw [List.getElem?_take] at hj
  split at hj
  · have := nd_inj nd hj (List.getElem?_eq_getElem hi); omega
  · cases hj
theorem lt_head {p q : List Nat} {a b : Nat} (hp : p[0]? = some a) (hq : q[0]? = some b) (h : a < b) : HT.lexLt (niz p) (niz q) = true := by
  cases p with
  | nil => cases hp
  | cons x r =>
    cases q with
    | nil => cases hq
    | cons y t =>
      cases hp
      cases hq
      show (if ((a : Nat) : Int) = ((b : Nat) : Int) then HT.lexLt (niz r) (niz t) else decide (((a : Nat) : Int) < ((b : Nat) : Int))) = true
      rw [if_neg (by omega), decide_eq_true (by omega)]
/-- the places that change, the values that move -/
def chgC (es fs : List Int) (n : Nat) : List Nat := (List.range n).filter fun b => !decide (V.int (es.getD b 0) = V.int (fs.getD b 0))
theorem chgC_eq (es fs : List Int) (n : Nat) : chgC es fs n = changed es fs n := by
  unfold chgC changed
  refine List.filter_congr fun b _ => ?_
  rw [decI]
theorem chgC_len (es fs : List Int) (n : Nat) : (chgC es fs n).length ≤ n := by
  have := List.length_filter_le (fun b => !decide (V.int (es.getD b 0) = V.int (fs.getD b 0))) (List.range n)
  rw [List.length_range] at this
  exact this
theorem mvB_len (es fs : List Int) (n : Nat) : (mvB es fs n).length ≤ n := by
  have := List.length_filter_le (fun b => !decide (es.getD b 0 = -1) && !decide (es.idxOf (es.getD b 0) = fs.idxOf (es.getD b 0))) (List.range n)
  rw [List.length_range] at this
  unfold mvB
  rw [List.length_map]
  exact this
theorem mvB_next (es fs : List Int) (i : Nat) : mvB es fs (i + 1) = mvB es fs i ++ if (!decide (es.getD i 0 = -1) && !decide (es.idxOf (es.getD i 0) = fs.idxOf (es.getD i 0))) = true then [es.getD i 0] else [] := by
  unfold mvB
  rw [fr_next, List.map_append]
  congr 1
  split <;> rfl
theorem rows_len_le {es fs : List Int} (R : Ren es fs) : (allRows es fs).length ≤ es.length := by
  have := (rows_perm R).length_eq
  have l := List.length_filter_le (fun b => !decide (es.getD b 0 = fs.getD b 0)) (List.range es.length)
  rw [List.length_range] at l
  unfold changed at this
  omega
theorem niz_perm {a b : List Nat} (h : a.Perm b) : (niz a).Perm (niz b) := h.map _
theorem niz_pw {a : List Nat} (h : a.Pairwise (· < ·)) : (niz a).Pairwise (· ≤ ·) := by
  unfold niz
  rw [List.pairwise_map]
  exact h.imp fun h => by omega
theorem heads_len (es fs : List Int) : (heads es fs).length ≤ 2 * es.length := by
  unfold heads starts tops
  rw [List.length_append]
  have h1 := List.length_filter_le (fun b => decide (Ch es fs b)) (List.range es.length)
  have h2 := List.length_filter_le (fun b => decide (IsR (G es fs) (Fo es fs b))) (List.range es.length)
  rw [List.length_range] at h1 h2
  omega
theorem flat_take (f : Nat → List Nat) (l : List Nat) {i : Nat} (h : i < l.length) : ((l.take (i + 1)).flatMap f) = (l.take i).flatMap f ++ f l[i] := by
  rw [take_next h, List.flatMap_append]
  simp
theorem flat_le (f : Nat → List Nat) (l : List Nat) (i : Nat) : ((l.take i).flatMap f).length ≤ (l.flatMap f).length := by
  have h := List.take_append_drop i l
  have : (l.flatMap f).length = ((l.take i ++ l.drop i).flatMap f).length := by rw [h]
  rw [List.flatMap_append, List.length_append] at this
  omega
end Rv
namespace Rv
open PySem PySem.Spec PyProof.Rows L2 RL RQ
def sLet : Str := Str.ofString "let"
def sLine : Str := Str.ofString "line"
def sCare : Str := Str.ofString "careful"
/-- what a script for an image is, and what is said of it -/
def CA (H : Hp) (v u : V) (s : Str) (k : Int) : Prop :=
  (s = sLet ∧ k = 1 ∧ ∃ es rs, IG H u es ∧ ScrYes H es.length v rs ∧ ∀ r ∈ rs, Care r) ∨
  (s = sImage ∧ ∃ M, IB M H u k) ∨
  (s = sLine ∧ ∃ es, IG H u es ∧ ScrNo H es.length v k) ∨
  (s = sCare ∧ ∃ (es : List Int) (rs : List Ln) (j : Nat), IG H u es ∧ ScrYes H es.length v rs ∧ k = (j : Int) ∧ (∃ r, rs[j]? = some r ∧ ¬ Care r) ∧ ∀ (i : Nat) r, i < j → rs[i]? = some r → Care r)
/-- an item whose data are told -/
def ImD (it : Im) : Prop := ∃ d : PyData, Sh 1 d ∧ ∀ (K : PySem.W.Frag) (M : List Addr) (H : Hp) (v : V), ImAt M H v it → Dp K H v d
theorem imD_tup {xs : List V} {ds : List PyData} (h : ∀ K H, DpAll K H xs ds) (s : ∀ d ∈ ds, Sh 0 d) : ImD (.tup xs) := ⟨.tuple ds, Sh.tuple s, fun K M H v ⟨p, e, hp⟩ => by subst e; exact .tup (SqT.of hp) (h K H)⟩
theorem imD_lst {xs : List V} {ds : List PyData} (h : ∀ K H, DpAll K H xs ds) (s : ∀ d ∈ ds, Sh 0 d) : ImD (.lst xs) := ⟨.list ds, Sh.list s, fun K M H v ⟨p, e, _, hp⟩ => by subst e; exact .lst (SqL.of hp) (h K H)⟩
theorem imD_four {w : Str} {t o : Int} {g : List Nat} (hw : PyData.strOk w = true) (hg : ∀ c ∈ g, c < 128) : (∀ K H, DpAll K H [.str w, .int t, .int o, .str (txt g)] [PyData.str w, .int t, .int o, .str (txt g)]) ∧ ∀ d ∈ [PyData.str w, .int t, .int o, .str (txt g)], Sh 0 d :=
  ⟨fun K H => .cons (.str _) (.cons (.int _) (.cons (.int _) (.cons (.str _) .nil))), fun d hd => by
    simp only [List.mem_cons, List.not_mem_nil, or_false] at hd
    rcases hd with rfl | rfl | rfl | rfl
    · exact Sh.str hw
    · exact Sh.int _
    · exact Sh.int _
    · exact Sh.str (strOk_txt hg)⟩
theorem imD_ln {r : Ln} (hw : PyData.strOk r.w = true) (hg : ∀ c ∈ r.g, c < 128) : ImD (.tup r.vals) := imD_tup (imD_four hw hg).1 (imD_four hw hg).2
theorem sign128 {c : Nat} (h : Sign c) : c < 128 := by unfold Sign at h; omega
theorem imD_ok {n : Nat} {r : Ln} (k : LnOk n r) : ImD (.tup r.vals) := imD_ln (by
  rcases k.word with ⟨e, _⟩ | ⟨e | e, _⟩ <;> rw [e] <;> decide +kernel) fun c hc => sign128 (k.gs c hc)
theorem ims_dp {M : List Addr} {H : Hp} {K : PySem.W.Frag} : ∀ {vs : List V} {is : List Im}, ImsAt M H vs is → (∀ it ∈ is, ImD it) → ∃ ds, (∀ d ∈ ds, Sh 1 d) ∧ DpAll K H vs ds
  | [], [], _, _ => ⟨[], fun d hd => (List.not_mem_nil hd).elim, .nil⟩
  | [], _ :: _, h, _ => absurd h.len (by simp)
  | _ :: _, [], h, _ => absurd h.len (by simp)
  | v :: vs, it :: is, h, d => by
    obtain ⟨ds, h1, h2⟩ := ims_dp (K := K) (vs := vs) (is := is) ⟨by have := h.len; simpa using this, fun i it e => h.at_ (i + 1) it e⟩ fun it hit => d it (List.mem_cons_of_mem _ hit)
    obtain ⟨v2, e, hv⟩ := h.at_ 0 it rfl
    cases e
    obtain ⟨x, s, q⟩ := d it (List.mem_cons_self ..)
    exact ⟨x :: ds, fun y hy => by
      rcases List.mem_cons.mp hy with rfl | k
      · exact s
      · exact h1 y k, .cons (q K M H v hv) h2⟩
/-- how the law marks a line -/
def MkL (n m : Nat) (it : Im) : Prop := (m = 0 ∧ ∃ r : Ln, it = .tup r.vals ∧ LnOk n r ∧ Care r) ∨ (m = 1 ∧ ∃ r : Ln, it = .tup r.vals ∧ LnOk n r ∧ ¬ Care r) ∨ (m = 2 ∧ ¬ Good n it)
structure LnMs (n : Nat) (is : List Im) (ms : List Nat) : Prop where
  len : is.length = ms.length
  mkd : ∀ (i : Nat) (it : Im) (m : Nat), is[i]? = some it → ms[i]? = some m → MkL n m it
  ok : ∀ it ∈ is, Wf it ∧ ImD it
theorem ins_at {α : Type} {l : List α} {x y : α} {k i : Nat} (hk : k ≤ l.length) (h : (l.take k ++ [x] ++ l.drop k)[i]? = some y) : (i < k ∧ l[i]? = some y) ∨ (i = k ∧ y = x) ∨ (k < i ∧ l[i - 1]? = some y) := by
  have lt : (l.take k).length = k := by rw [List.length_take]; omega
  have l2 : (l.take k ++ [x]).length = k + 1 := by rw [List.length_append, lt]; rfl
  by_cases z : i < k
  · rw [List.getElem?_append_left (by omega), List.getElem?_append_left (by omega), List.getElem?_take, if_pos z] at h
    exact .inl ⟨z, h⟩
  · by_cases e : i = k
    · rw [List.getElem?_append_left (by omega), List.getElem?_append_right (by omega), lt, e, Nat.sub_self] at h
      exact .inr (.inl ⟨e, (Option.some.inj h).symm⟩)
    · rw [List.getElem?_append_right (by omega), l2, List.getElem?_drop, show k + (i - (k + 1)) = i - 1 by omega] at h
      exact .inr (.inr ⟨by omega, h⟩)
theorem LnMs.ins {n : Nat} {is : List Im} {ms : List Nat} {it : Im} {m k : Nat} (h : LnMs n is ms) (hk : k ≤ is.length) (a : MkL n m it) (w : Wf it) (d : ImD it) : LnMs n (is.take k ++ [it] ++ is.drop k) (ms.take k ++ [m] ++ ms.drop k) := by
  have l := h.len
  refine ⟨by simp only [List.length_append, List.length_take, List.length_drop, l]; rfl, fun i x y h1 h2 => ?_, fun x hx => ?_⟩
  · rcases ins_at hk h1 with ⟨z1, e1⟩ | ⟨z1, e1⟩ | ⟨z1, e1⟩ <;> rcases ins_at (by omega) h2 with ⟨z2, e2⟩ | ⟨z2, e2⟩ | ⟨z2, e2⟩ <;> first | omega | skip
    · exact h.mkd i x y e1 e2
    · rw [e1, e2]; exact a
    · exact h.mkd (i - 1) x y e1 e2
  · rcases List.mem_append.mp hx with k | k
    · rcases List.mem_append.mp k with k2 | k2
      · exact h.ok x (List.mem_of_mem_take k2)
      · rw [List.mem_singleton.mp k2]; exact ⟨w, d⟩
    · exact h.ok x (List.mem_of_mem_drop k)
theorem nvs_ins (l : List Nat) (k x : Nat) : (nvs l).take k ++ [V.int (x : Int)] ++ (nvs l).drop k = nvs (l.take k ++ [x] ++ l.drop k) := by
  unfold nvs niz
  rw [List.map_append, List.map_append, List.map_append, List.map_append, List.map_take, List.map_take, List.map_drop, List.map_drop]
  rfl
theorem all_good {n : Nat} : ∀ {is : List Im}, (∀ it ∈ is, Good n it) → ∃ rs : List Ln, is = rs.map (fun r => .tup r.vals) ∧ ∀ r ∈ rs, LnOk n r
  | [], _ => ⟨[], rfl, fun r hr => (List.not_mem_nil hr).elim⟩
  | it :: is, h => by
    obtain ⟨rs, e, ok⟩ := all_good (is := is) fun x hx => h x (List.mem_cons_of_mem _ hx)
    obtain ⟨r, e1, k⟩ := h it (List.mem_cons_self ..)
    exact ⟨r :: rs, by rw [List.map_cons, e, e1], fun x hx => by
      rcases List.mem_cons.mp hx with rfl | y
      · exact k
      · exact ok x y⟩
theorem ims_tups {M : List Addr} {H : Hp} : ∀ {vs : List V} {rs : List Ln}, ImsAt M H vs (rs.map fun r => .tup r.vals) → ∃ as : List Addr, vs = as.map V.ref ∧ TupsAt H as (rows rs)
  | [], [], _ => ⟨[], rfl, TupsAt.nil⟩
  | [], _ :: _, h => absurd h.len (by simp)
  | _ :: _, [], h => absurd h.len (by simp)
  | v :: vs, r :: rs, h => by
    obtain ⟨as, e, t⟩ := ims_tups (vs := vs) (rs := rs) ⟨by have := h.len; simpa using this, fun i it e => h.at_ (i + 1) it e⟩
    obtain ⟨v2, e2, p, ev, hp⟩ := h.at_ 0 _ rfl
    cases e2
    refine ⟨p :: as, by rw [ev, e]; rfl, by have := t.1; unfold rows at this ⊢; rw [List.length_cons, this, List.map_cons, List.length_cons], fun i us eu => ?_⟩
    cases i with
    | zero => cases eu; exact ⟨p, rfl, hp⟩
    | succ i => exact t.2 i us eu
theorem first_in {ms : List Nat} {x : Nat} (h : x ∈ ms) : ∃ j : Nat, ms[j]? = some x ∧ ∀ m : Nat, m < j → ms[m]? ≠ some x := by
  induction ms with
  | nil => cases h
  | cons y r ih =>
    by_cases e : y = x
    · exact ⟨0, by rw [e]; rfl, fun m hm => absurd hm (Nat.not_lt_zero m)⟩
    · rcases List.mem_cons.mp h with k | k
      · exact absurd k.symm e
      · obtain ⟨j, h1, h2⟩ := ih k
        exact ⟨j + 1, h1, fun m hm => by
          cases m with
          | zero => exact fun z => e (Option.some.inj z)
          | succ m => exact h2 m (by omega)⟩
theorem first_niz {ms : List Nat} {x j : Nat} (h : ms[j]? = some x) (no : ∀ m : Nat, m < j → ms[m]? ≠ some x) : (niz ms)[j]? = some (x : Int) ∧ ∀ m : Nat, m < j → (niz ms)[m]? ≠ some (x : Int) :=
  ⟨niz_get h, fun m hm e => by
    unfold niz at e
    rw [List.getElem?_map] at e
    cases e2 : ms[m]? with
    | none => rw [e2] at e; cases e
    | some y =>
      rw [e2] at e
      have e3 : ((y : Nat) : Int) = (x : Int) := Option.some.inj e
      exact no m hm (by rw [e2, show y = x by omega])⟩
theorem LnMs.good {n : Nat} {is : List Im} {ms : List Nat} (h : LnMs n is ms) {i : Nat} {it : Im} (e : is[i]? = some it) (no : ms[i]? ≠ some 2) : Good n it := by
  have li := (List.getElem?_eq_some_iff.mp e).1
  have hm : i < ms.length := by rw [← h.len]; exact li
  have em : ms[i]? = some ms[i] := List.getElem?_eq_getElem hm
  rcases h.mkd i it _ e em with ⟨_, r, e1, k, _⟩ | ⟨_, r, e1, k, _⟩ | ⟨z, _⟩
  · exact ⟨r, e1, k⟩
  · exact ⟨r, e1, k⟩
  · rw [em, z] at no; exact absurd rfl no
/-- what is due for the marked lines -/
theorem LnMs.two {n : Nat} {is : List Im} {ms : List Nat} {M : List Addr} {H : Hp} {l : Addr} {vs : List V} (h : LnMs n is ms) (hl : H l = some (.lst vs)) (t : ImsAt M H vs is) (l60 : is.length ≤ 60) {j : Nat} (e : ms[j]? = some 2) (no : ∀ m : Nat, m < j → ms[m]? ≠ some 2) : ScrNo H n (.ref l) (j : Int) := by
  have lj := (List.getElem?_eq_some_iff.mp e).1
  have ei : is[j]? = some (is[j]'(by rw [h.len]; exact lj)) := List.getElem?_eq_getElem (by rw [h.len]; exact lj)
  refine .inr ⟨l, vs, is, j, rfl, hl, t.keep (fun a h => (List.not_mem_nil h).elim) (fun a o _ e => e) (fun a xs e => e), l60, fun it hit => (h.ok it hit).1, rfl, ⟨_, ei, ?_⟩, fun i it hi e2 => h.good e2 (no i hi)⟩
  rcases h.mkd j _ 2 ei e with ⟨z, _⟩ | ⟨z, _⟩ | ⟨_, g⟩
  · omega
  · omega
  · exact g
theorem LnMs.yes {n : Nat} {is : List Im} {ms : List Nat} {M : List Addr} {H : Hp} {l : Addr} {vs : List V} (h : LnMs n is ms) (hl : H l = some (.lst vs)) (t : ImsAt M H vs is) (l60 : is.length ≤ 60) (no : 2 ∉ ms) : ∃ rs, ScrYes H n (.ref l) rs ∧ is = rs.map (fun r => .tup r.vals) := by
  obtain ⟨rs, e, ok⟩ := all_good (n := n) (is := is) fun it hit => by
    obtain ⟨i, hi⟩ := List.getElem?_of_mem hit
    exact h.good hi fun z => no (List.mem_of_getElem? z)
  subst e
  obtain ⟨as, e2, ta⟩ := ims_tups t
  subst e2
  exact ⟨rs, ⟨l, as, rfl, hl, ta, by rw [List.length_map] at l60; exact l60, ok⟩, rfl⟩
theorem vals_inj2 {r r2 : Ln} (h : Im.tup r.vals = Im.tup r2.vals) : r = r2 := vals_inj (Im.tup.inj h)
theorem LnMs.care {n : Nat} {rs : List Ln} {ms : List Nat} (h : LnMs n (rs.map fun r => .tup r.vals) ms) {i : Nat} {r : Ln} (e : rs[i]? = some r) (no2 : 2 ∉ ms) : Care r ↔ ms[i]? ≠ some 1 := by
  have li := (List.getElem?_eq_some_iff.mp e).1
  have l := h.len
  rw [List.length_map] at l
  have em : ms[i]? = some ms[i] := List.getElem?_eq_getElem (by omega)
  rcases h.mkd i (.tup r.vals) _ (by rw [List.getElem?_map, e]; rfl) em with ⟨z, r2, e1, k, c⟩ | ⟨z, r2, e1, k, c⟩ | ⟨z, _⟩
  · rw [vals_inj2 e1]
    exact ⟨fun _ y => by rw [em] at y; have := Option.some.inj y; omega, fun _ => c⟩
  · rw [vals_inj2 e1]
    exact ⟨fun y => absurd y c, fun y => by rw [em, z] at y; exact absurd rfl y⟩
  · exact absurd (z ▸ List.getElem_mem _) no2
/-- a guard with another sign at t -/
theorem sign_set {gs : List Nat} {t c : Nat} (ht : t < gs.length) : gs.take t ++ [c] ++ gs.drop (t + 1) = gs.set t c := by
  rw [List.set_eq_take_append_cons_drop, if_pos ht, List.append_assoc]; rfl
end Rv
namespace K38
open PySem PySem.Spec PyProof.Rows L2 Rv RL RQ
def top (i : Nat) : Stmt := PySem.Challenge.pw_redolots_k38_chains_and_rings.main.body.getD i (.Pass ⟨0, 0, 0, 0⟩)
abbrev scheck_image : Stmt := top 10
theorem sccheck_image : FnScope ["image", "block", "entry"] ["image"] (defScope scheck_image) := ⟨rfl, rfl, rfl, by decide +kernel, rfl, by decide +kernel, by decide +kernel⟩
abbrev sfollowed : Stmt := top 12
theorem scfollowed : FnScope ["leads", "block", "path"] ["leads", "block"] (defScope sfollowed) := ⟨rfl, rfl, rfl, by decide +kernel, rfl, by decide +kernel, by decide +kernel⟩
abbrev sall_rings : Stmt := top 13
theorem scall_rings : FnScope ["leads", "paths", "block", "path"] ["leads"] (defScope sall_rings) := ⟨rfl, rfl, rfl, by decide +kernel, rfl, by decide +kernel, by decide +kernel⟩
abbrev scheck_script : Stmt := top 17
theorem sccheck_script : FnScope ["script", "image", "at", "line"] ["script", "image"] (defScope scheck_script) := ⟨rfl, rfl, rfl, by decide +kernel, rfl, by decide +kernel, by decide +kernel⟩
abbrev shas_guard_signs : Stmt := top 18
theorem schas_guard_signs : FnScope ["text", "sign"] ["text"] (defScope shas_guard_signs) := ⟨rfl, rfl, rfl, by decide +kernel, rfl, by decide +kernel, by decide +kernel⟩
abbrev s_is_line : Stmt := top 19
theorem sc_is_line : FnScope ["line", "blocks", "op", "target", "source", "guard"] ["line", "blocks"] (defScope s_is_line) := ⟨rfl, rfl, rfl, by decide +kernel, rfl, by decide +kernel, by decide +kernel⟩
abbrev s_is_block : Stmt := top 20
theorem sc_is_block : FnScope ["block", "blocks"] ["block", "blocks"] (defScope s_is_block) := ⟨rfl, rfl, rfl, by decide +kernel, rfl, by decide +kernel, by decide +kernel⟩
abbrev s_is_source : Stmt := top 21
theorem sc_is_source : FnScope ["op", "target", "source", "blocks"] ["op", "target", "source", "blocks"] (defScope s_is_source) := ⟨rfl, rfl, rfl, by decide +kernel, rfl, by decide +kernel, by decide +kernel⟩
abbrev s_is_guard : Stmt := top 22
theorem sc_is_guard : FnScope ["guard", "blocks"] ["guard", "blocks"] (defScope s_is_guard) := ⟨rfl, rfl, rfl, by decide +kernel, rfl, by decide +kernel, by decide +kernel⟩
abbrev scheck_renaming : Stmt := top 24
theorem sccheck_renaming : FnScope ["before", "after", "values", "entry"] ["before", "after"] (defScope scheck_renaming) := ⟨rfl, rfl, rfl, by decide +kernel, rfl, by decide +kernel, by decide +kernel⟩
abbrev scheck_careful : Stmt := top 25
theorem sccheck_careful : FnScope ["script", "image", "at", "line"] ["script", "image"] (defScope scheck_careful) := ⟨rfl, rfl, rfl, by decide +kernel, rfl, by decide +kernel, by decide +kernel⟩
abbrev schains : Stmt := top 26
theorem scchains : FnScope ["before", "after", "leads", "starts", "block", "entry"] ["before", "after"] (defScope schains) := ⟨rfl, rfl, rfl, by decide +kernel, rfl, by decide +kernel, by decide +kernel⟩
abbrev srings : Stmt := top 27
theorem scrings : FnScope ["before", "after"] ["before", "after"] (defScope srings) := ⟨rfl, rfl, rfl, by decide +kernel, rfl, by decide +kernel, by decide +kernel⟩
abbrev smoving : Stmt := top 28
theorem scmoving : FnScope ["before", "after", "entry", "now"] ["before", "after"] (defScope smoving) := ⟨rfl, rfl, rfl, by decide +kernel, rfl, by decide +kernel, by decide +kernel⟩
abbrev s_is_careful : Stmt := top 29
theorem sc_is_careful : FnScope ["line", "op", "target", "_", "guard"] ["line"] (defScope s_is_careful) := ⟨rfl, rfl, rfl, by decide +kernel, rfl, by decide +kernel, by decide +kernel⟩
abbrev s_leads : Stmt := top 30
theorem sc_leads : FnScope ["before", "after", "entry"] ["before", "after"] (defScope s_leads) := ⟨rfl, rfl, rfl, by decide +kernel, rfl, by decide +kernel, by decide +kernel⟩
abbrev s_law_box : Stmt := top 32
theorem sc_law_box : FnScope ["script", "at", "cell"] ["script", "at"] (defScope s_law_box) := ⟨rfl, rfl, rfl, by decide +kernel, rfl, by decide +kernel, by decide +kernel⟩
abbrev s_law_take : Stmt := top 33
theorem sc_law_take : FnScope ["box", "limit", "digit", "mixed"] ["box", "limit"] (defScope s_law_take) := ⟨rfl, rfl, rfl, by decide +kernel, rfl, by decide +kernel, by decide +kernel⟩
abbrev s_law_values : Stmt := top 34
theorem sc_law_values : FnScope ["box", "many", "way", "kind", "found", "at", "value", "turn"] ["box", "many"] (defScope s_law_values) := ⟨rfl, rfl, rfl, by decide +kernel, rfl, by decide +kernel, by decide +kernel⟩
abbrev s_law_laid : Stmt := top 35
theorem sc_law_laid : FnScope ["box", "blocks", "values", "free", "laid", "value", "at", "k"] ["box", "blocks", "values"] (defScope s_law_laid) := ⟨rfl, rfl, rfl, by decide +kernel, rfl, by decide +kernel, by decide +kernel⟩
abbrev s_law_before : Stmt := top 36
theorem sc_law_before : FnScope ["box", "blocks", "empties", "way"] ["box"] (defScope s_law_before) := ⟨rfl, rfl, rfl, by decide +kernel, rfl, by decide +kernel, by decide +kernel⟩
abbrev s_law_sign : Stmt := top 37
theorem sc_law_sign : FnScope ["entry"] ["entry"] (defScope s_law_sign) := ⟨rfl, rfl, rfl, by decide +kernel, rfl, by decide +kernel, by decide +kernel⟩
abbrev s_law_partners : Stmt := top 39
theorem sc_law_partners : FnScope ["laid", "one", "way", "others", "at"] ["laid", "one", "way"] (defScope s_law_partners) := ⟨rfl, rfl, rfl, by decide +kernel, rfl, by decide +kernel, by decide +kernel⟩
abbrev s_law_turned : Stmt := top 40
theorem sc_law_turned : FnScope ["box", "before", "laid", "free", "turn", "one", "two", "kept", "three", "at"] ["box", "before"] (defScope s_law_turned) := ⟨rfl, rfl, rfl, by decide +kernel, rfl, by decide +kernel, by decide +kernel⟩
abbrev s_law_after : Stmt := top 41
theorem sc_law_after : FnScope ["box", "before", "way", "laid", "many", "turn", "ones", "one", "fit", "two", "kept", "at", "value"] ["box", "before"] (defScope s_law_after) := ⟨rfl, rfl, rfl, by decide +kernel, rfl, by decide +kernel, by decide +kernel⟩
abbrev s_law_number : Stmt := top 42
theorem sc_law_number : FnScope ["told"] ["told"] (defScope s_law_number) := ⟨rfl, rfl, rfl, by decide +kernel, rfl, by decide +kernel, by decide +kernel⟩
abbrev s_law_fresh : Stmt := top 43
theorem sc_law_fresh : FnScope ["box", "image", "value", "turn"] ["box", "image"] (defScope s_law_fresh) := ⟨rfl, rfl, rfl, by decide +kernel, rfl, by decide +kernel, by decide +kernel⟩
abbrev s_law_with : Stmt := top 44
theorem sc_law_with : FnScope ["image", "at", "entry"] ["image", "at", "entry"] (defScope s_law_with) := ⟨rfl, rfl, rfl, by decide +kernel, rfl, by decide +kernel, by decide +kernel⟩
abbrev s_law_wrong : Stmt := top 45
theorem sc_law_wrong : FnScope ["box", "way"] ["box"] (defScope s_law_wrong) := ⟨rfl, rfl, rfl, by decide +kernel, rfl, by decide +kernel, by decide +kernel⟩
abbrev s_law_doubled : Stmt := top 46
theorem sc_law_doubled : FnScope ["image", "gone", "kept", "entry"] ["image", "gone", "kept"] (defScope s_law_doubled) := ⟨rfl, rfl, rfl, by decide +kernel, rfl, by decide +kernel, by decide +kernel⟩
abbrev s_law_bad_image : Stmt := top 47
theorem sc_law_bad_image : FnScope ["box", "before", "after", "way", "at", "other", "wrong", "odd"] ["box", "before", "after", "way"] (defScope s_law_bad_image) := ⟨rfl, rfl, rfl, by decide +kernel, rfl, by decide +kernel, by decide +kernel⟩
abbrev s_law_bad_values : Stmt := top 48
theorem sc_law_bad_values : FnScope ["box", "before", "after", "way", "blocks", "full", "empty", "due", "gone", "kept", "entry", "k"] ["box", "before", "after", "way"] (defScope s_law_bad_values) := ⟨rfl, rfl, rfl, by decide +kernel, rfl, by decide +kernel, by decide +kernel⟩
abbrev s_law_bad : Stmt := top 49
theorem sc_law_bad : FnScope ["box", "before", "after", "way"] ["box", "before", "after"] (defScope s_law_bad) := ⟨rfl, rfl, rfl, by decide +kernel, rfl, by decide +kernel, by decide +kernel⟩
abbrev s_law_is_row : Stmt := top 50
theorem sc_law_is_row : FnScope ["row", "blocks", "at"] ["row", "blocks"] (defScope s_law_is_row) := ⟨rfl, rfl, rfl, by decide +kernel, rfl, by decide +kernel, by decide +kernel⟩
abbrev s_law_is_chain : Stmt := top 51
theorem sc_law_is_chain : FnScope ["row", "before", "after", "last", "at"] ["row", "before", "after"] (defScope s_law_is_chain) := ⟨rfl, rfl, rfl, by decide +kernel, rfl, by decide +kernel, by decide +kernel⟩
abbrev s_law_is_ring : Stmt := top 52
theorem sc_law_is_ring : FnScope ["row", "before", "after", "at", "value"] ["row", "before", "after"] (defScope s_law_is_ring) := ⟨rfl, rfl, rfl, by decide +kernel, rfl, by decide +kernel, by decide +kernel⟩
abbrev s_law_rows_hold : Stmt := top 53
theorem sc_law_rows_hold : FnScope ["told", "before", "after", "closed", "at"] ["told", "before", "after", "closed"] (defScope s_law_rows_hold) := ⟨rfl, rfl, rfl, by decide +kernel, rfl, by decide +kernel, by decide +kernel⟩
abbrev s_law_pair_holds : Stmt := top 54
theorem sc_law_pair_holds : FnScope ["before", "after", "lines", "loops", "found", "row", "told", "due", "value", "k"] ["before", "after"] (defScope s_law_pair_holds) := ⟨rfl, rfl, rfl, by decide +kernel, rfl, by decide +kernel, by decide +kernel⟩
abbrev s_law_asked : Stmt := top 55
theorem sc_law_asked : FnScope ["word", "before", "after", "caught"] ["word", "before", "after"] (defScope s_law_asked) := ⟨rfl, rfl, rfl, by decide +kernel, rfl, by decide +kernel, by decide +kernel⟩
abbrev s_law_refusals_hold : Stmt := top 56
theorem sc_law_refusals_hold : FnScope ["box", "before", "after", "bad", "word"] ["box", "before", "after"] (defScope s_law_refusals_hold) := ⟨rfl, rfl, rfl, by decide +kernel, rfl, by decide +kernel, by decide +kernel⟩
abbrev s_law_mark : Stmt := top 57
theorem sc_law_mark : FnScope ["box", "is_target"] ["box", "is_target"] (defScope s_law_mark) := ⟨rfl, rfl, rfl, by decide +kernel, rfl, by decide +kernel, by decide +kernel⟩
abbrev s_law_careful_line : Stmt := top 58
theorem sc_law_careful_line : FnScope ["box", "blocks", "target", "source", "k"] ["box", "blocks"] (defScope s_law_careful_line) := ⟨rfl, rfl, rfl, by decide +kernel, rfl, by decide +kernel, by decide +kernel⟩
abbrev s_law_other_line : Stmt := top 59
theorem sc_law_other_line : FnScope ["box", "blocks", "way", "line", "mark"] ["box", "blocks"] (defScope s_law_other_line) := ⟨rfl, rfl, rfl, by decide +kernel, rfl, by decide +kernel, by decide +kernel⟩
abbrev s_law_wrong_line : Stmt := top 60
theorem sc_law_wrong_line : FnScope ["box", "blocks", "way", "target", "source", "guard"] ["box", "blocks"] (defScope s_law_wrong_line) := ⟨rfl, rfl, rfl, by decide +kernel, rfl, by decide +kernel, by decide +kernel⟩
abbrev s_law_careful_asked : Stmt := top 61
theorem sc_law_careful_asked : FnScope ["handed", "image", "told", "caught"] ["handed", "image"] (defScope s_law_careful_asked) := ⟨rfl, rfl, rfl, by decide +kernel, rfl, by decide +kernel, by decide +kernel⟩
abbrev s_law_script_holds : Stmt := top 62
theorem sc_law_script_holds : FnScope ["box", "image", "blocks", "count", "lines", "marks", "way", "turn", "at", "due", "handed", "k"] ["box", "image"] (defScope s_law_script_holds) := ⟨rfl, rfl, rfl, by decide +kernel, rfl, by decide +kernel, by decide +kernel⟩
abbrev s_law_some_twice : Stmt := top 63
theorem sc_law_some_twice : FnScope ["box", "image"] ["box", "image"] (defScope s_law_some_twice) := ⟨rfl, rfl, rfl, by decide +kernel, rfl, by decide +kernel, by decide +kernel⟩
abbrev slaw : Stmt := top 64
theorem sclaw : FnScope ["script", "at", "box", "before", "after"] ["script"] (defScope slaw) := ⟨rfl, rfl, rfl, by decide +kernel, rfl, by decide +kernel, by decide +kernel⟩
abbrev sInvalidLineu_initu : Stmt := inClass (top 3) 0
theorem scInvalidLineu_initu : FnScope ["self", "at"] ["self", "at"] (defScope sInvalidLineu_initu) := ⟨rfl, rfl, rfl, by decide +kernel, rfl, by decide +kernel, by decide +kernel⟩
abbrev sNotCarefulu_initu : Stmt := inClass (top 4) 0
theorem scNotCarefulu_initu : FnScope ["self", "at"] ["self", "at"] (defScope sNotCarefulu_initu) := ⟨rfl, rfl, rfl, by decide +kernel, rfl, by decide +kernel, by decide +kernel⟩
abbrev sInvalidImageu_initu : Stmt := inClass (top 5) 0
theorem scInvalidImageu_initu : FnScope ["self", "block"] ["self", "block"] (defScope sInvalidImageu_initu) := ⟨rfl, rfl, rfl, by decide +kernel, rfl, by decide +kernel, by decide +kernel⟩
theorem okInit_InvalidLine {P : Program} {w : World} {K : PySem.W.Frag} {mg : Str → Option Value} {base : Heap} {C fI : Addr} {fd : FuncData} (ET : ErrT K mg C fI "InvalidLine" "at") (F : Fun K "__init__" "InvalidLine.__init__" sInvalidLineu_initu fI fd) : FnOk P w K mg base CX0 1 fI fd ["self", "at"] (spErr C "at") := by
  refine F.ok scInvalidLineu_initu (fun vs H Q E h => ?_) (fun cdv A outer s H vs Q E hr h => ?_)
  · obtain ⟨a, v, rfl, _⟩ := h
    rfl
  · obtain ⟨a, v, rfl, ea, q⟩ := h
    exact ⟨_, pss_one (ps_ost (pv 0) (pv 1)), _, rfl, _, rfl, a, C, rfl, ET.ox, ET.noN, .inl ⟨ea, fun d nd ne => q d nd ne⟩⟩
theorem okInit_NotCareful {P : Program} {w : World} {K : PySem.W.Frag} {mg : Str → Option Value} {base : Heap} {C fI : Addr} {fd : FuncData} (ET : ErrT K mg C fI "NotCareful" "at") (F : Fun K "__init__" "NotCareful.__init__" sNotCarefulu_initu fI fd) : FnOk P w K mg base CX0 1 fI fd ["self", "at"] (spErr C "at") := by
  refine F.ok scNotCarefulu_initu (fun vs H Q E h => ?_) (fun cdv A outer s H vs Q E hr h => ?_)
  · obtain ⟨a, v, rfl, _⟩ := h
    rfl
  · obtain ⟨a, v, rfl, ea, q⟩ := h
    exact ⟨_, pss_one (ps_ost (pv 0) (pv 1)), _, rfl, _, rfl, a, C, rfl, ET.ox, ET.noN, .inl ⟨ea, fun d nd ne => q d nd ne⟩⟩
theorem okInit_InvalidImage {P : Program} {w : World} {K : PySem.W.Frag} {mg : Str → Option Value} {base : Heap} {C fI : Addr} {fd : FuncData} (ET : ErrT K mg C fI "InvalidImage" "block") (F : Fun K "__init__" "InvalidImage.__init__" sInvalidImageu_initu fI fd) : FnOk P w K mg base CX0 1 fI fd ["self", "block"] (spErr C "block") := by
  refine F.ok scInvalidImageu_initu (fun vs H Q E h => ?_) (fun cdv A outer s H vs Q E hr h => ?_)
  · obtain ⟨a, v, rfl, _⟩ := h
    rfl
  · obtain ⟨a, v, rfl, ea, q⟩ := h
    exact ⟨_, pss_one (ps_ost (pv 0) (pv 1)), _, rfl, _, rfl, a, C, rfl, ET.ox, ET.noN, .inl ⟨ea, fun d nd ne => q d nd ne⟩⟩
structure Top (K : PySem.W.Frag) (mg : Str → Option Value) : Prop where
  d_check_image : ∃ f fd, Def K mg "check_image" scheck_image ["image"] f fd
  d_followed : ∃ f fd, Def K mg "followed" sfollowed ["leads", "block"] f fd
  d_all_rings : ∃ f fd, Def K mg "all_rings" sall_rings ["leads"] f fd
  d_check_script : ∃ f fd, Def K mg "check_script" scheck_script ["script", "image"] f fd
  d_has_guard_signs : ∃ f fd, Def K mg "has_guard_signs" shas_guard_signs ["text"] f fd
  d__is_line : ∃ f fd, Def K mg "_is_line" s_is_line ["line", "blocks"] f fd
  d__is_block : ∃ f fd, Def K mg "_is_block" s_is_block ["block", "blocks"] f fd
  d__is_source : ∃ f fd, Def K mg "_is_source" s_is_source ["op", "target", "source", "blocks"] f fd
  d__is_guard : ∃ f fd, Def K mg "_is_guard" s_is_guard ["guard", "blocks"] f fd
  d_check_renaming : ∃ f fd, Def K mg "check_renaming" scheck_renaming ["before", "after"] f fd
  d_check_careful : ∃ f fd, Def K mg "check_careful" scheck_careful ["script", "image"] f fd
  d_chains : ∃ f fd, Def K mg "chains" schains ["before", "after"] f fd
  d_rings : ∃ f fd, Def K mg "rings" srings ["before", "after"] f fd
  d_moving : ∃ f fd, Def K mg "moving" smoving ["before", "after"] f fd
  d__is_careful : ∃ f fd, Def K mg "_is_careful" s_is_careful ["line"] f fd
  d__leads : ∃ f fd, Def K mg "_leads" s_leads ["before", "after"] f fd
  d__law_box : ∃ f fd, Def K mg "_law_box" s_law_box ["script", "at"] f fd
  d__law_take : ∃ f fd, Def K mg "_law_take" s_law_take ["box", "limit"] f fd
  d__law_values : ∃ f fd, Def K mg "_law_values" s_law_values ["box", "many"] f fd
  d__law_laid : ∃ f fd, Def K mg "_law_laid" s_law_laid ["box", "blocks", "values"] f fd
  d__law_before : ∃ f fd, Def K mg "_law_before" s_law_before ["box"] f fd
  d__law_sign : ∃ f fd, Def K mg "_law_sign" s_law_sign ["entry"] f fd
  d__law_partners : ∃ f fd, Def K mg "_law_partners" s_law_partners ["laid", "one", "way"] f fd
  d__law_turned : ∃ f fd, Def K mg "_law_turned" s_law_turned ["box", "before"] f fd
  d__law_after : ∃ f fd, Def K mg "_law_after" s_law_after ["box", "before"] f fd
  d__law_number : ∃ f fd, Def K mg "_law_number" s_law_number ["told"] f fd
  d__law_fresh : ∃ f fd, Def K mg "_law_fresh" s_law_fresh ["box", "image"] f fd
  d__law_with : ∃ f fd, Def K mg "_law_with" s_law_with ["image", "at", "entry"] f fd
  d__law_wrong : ∃ f fd, Def K mg "_law_wrong" s_law_wrong ["box"] f fd
  d__law_doubled : ∃ f fd, Def K mg "_law_doubled" s_law_doubled ["image", "gone", "kept"] f fd
  d__law_bad_image : ∃ f fd, Def K mg "_law_bad_image" s_law_bad_image ["box", "before", "after", "way"] f fd
  d__law_bad_values : ∃ f fd, Def K mg "_law_bad_values" s_law_bad_values ["box", "before", "after", "way"] f fd
  d__law_bad : ∃ f fd, Def K mg "_law_bad" s_law_bad ["box", "before", "after"] f fd
  d__law_is_row : ∃ f fd, Def K mg "_law_is_row" s_law_is_row ["row", "blocks"] f fd
  d__law_is_chain : ∃ f fd, Def K mg "_law_is_chain" s_law_is_chain ["row", "before", "after"] f fd
  d__law_is_ring : ∃ f fd, Def K mg "_law_is_ring" s_law_is_ring ["row", "before", "after"] f fd
  d__law_rows_hold : ∃ f fd, Def K mg "_law_rows_hold" s_law_rows_hold ["told", "before", "after", "closed"] f fd
  d__law_pair_holds : ∃ f fd, Def K mg "_law_pair_holds" s_law_pair_holds ["before", "after"] f fd
  d__law_asked : ∃ f fd, Def K mg "_law_asked" s_law_asked ["word", "before", "after"] f fd
  d__law_refusals_hold : ∃ f fd, Def K mg "_law_refusals_hold" s_law_refusals_hold ["box", "before", "after"] f fd
  d__law_mark : ∃ f fd, Def K mg "_law_mark" s_law_mark ["box", "is_target"] f fd
  d__law_careful_line : ∃ f fd, Def K mg "_law_careful_line" s_law_careful_line ["box", "blocks"] f fd
  d__law_other_line : ∃ f fd, Def K mg "_law_other_line" s_law_other_line ["box", "blocks"] f fd
  d__law_wrong_line : ∃ f fd, Def K mg "_law_wrong_line" s_law_wrong_line ["box", "blocks"] f fd
  d__law_careful_asked : ∃ f fd, Def K mg "_law_careful_asked" s_law_careful_asked ["handed", "image"] f fd
  d__law_script_holds : ∃ f fd, Def K mg "_law_script_holds" s_law_script_holds ["box", "image"] f fd
  d__law_some_twice : ∃ f fd, Def K mg "_law_some_twice" s_law_some_twice ["box", "image"] f fd
  d_law : ∃ f fd, Def K mg "law" slaw ["script"] f fd
  b_ValueError : mg "ValueError" = none
  b_abs : mg "abs" = none
  b_all : mg "all" = none
  b_bool : mg "bool" = none
  b_enumerate : mg "enumerate" = none
  b_int : mg "int" = none
  b_isinstance : mg "isinstance" = none
  b_len : mg "len" = none
  b_list : mg "list" = none
  b_max : mg "max" = none
  b_min : mg "min" = none
  b_range : mg "range" = none
  b_set : mg "set" = none
  b_sorted : mg "sorted" = none
  b_str : mg "str" = none
  b_sum : mg "sum" = none
  b_tuple : mg "tuple" = none
  b_zip : mg "zip" = none
  k_EMPTY : ∃ u, mg "EMPTY" = some u ∧ RelV (.int (-1)) u
  k_MOST_LINES : ∃ u, mg "MOST_LINES" = some u ∧ RelV (.int (60)) u
  k__GREATEST : ∃ u, mg "_GREATEST" = some u ∧ RelV (.int (999)) u
  k__GUARD_SIGNS : ∃ u, mg "_GUARD_SIGNS" = some u ∧ RelV (.str ".*-0123456789") u
  k__MOST_BLOCKS : ∃ u, mg "_MOST_BLOCKS" = some u ∧ RelV (.int (12)) u
  e_InvalidLine : ∃ (fI : Addr) (fd : FuncData), ErrT K mg (atTop K "InvalidLine") fI "InvalidLine" "at" ∧ Fun K "__init__" "InvalidLine.__init__" sInvalidLineu_initu fI fd ∧ Binds K fd ["self", "at"] []
  e_NotCareful : ∃ (fI : Addr) (fd : FuncData), ErrT K mg (atTop K "NotCareful") fI "NotCareful" "at" ∧ Fun K "__init__" "NotCareful.__init__" sNotCarefulu_initu fI fd ∧ Binds K fd ["self", "at"] []
  e_InvalidImage : ∃ (fI : Addr) (fd : FuncData), ErrT K mg (atTop K "InvalidImage") fI "InvalidImage" "block" ∧ Fun K "__init__" "InvalidImage.__init__" sInvalidImageu_initu fI fd ∧ Binds K fd ["self", "block"] []
  c_InvalidImage : ∃ u, mg "InvalidImage" = some u ∧ RelV (.ref (atTop K "InvalidImage")) u
  c_InvalidLine : ∃ u, mg "InvalidLine" = some u ∧ RelV (.ref (atTop K "InvalidLine")) u
  c_NotCareful : ∃ u, mg "NotCareful" = some u ∧ RelV (.ref (atTop K "NotCareful")) u
  c_NotRenaming : ∃ u, mg "NotRenaming" = some u ∧ RelV (.ref (atTop K "NotRenaming")) u
  c_RedoError : ∃ u, mg "RedoError" = some u ∧ RelV (.ref (atTop K "RedoError")) u
  e_NotRenaming : Err0 K mg (atTop K "NotRenaming") "NotRenaming"
  x_InvalidImage_InvalidImage : PySem.W.exmOne K (.ref (atTop K "InvalidImage")) (.ref (atTop K "InvalidImage")) = some true
  x_NotRenaming_InvalidImage : PySem.W.exmOne K (.ref (atTop K "NotRenaming")) (.ref (atTop K "InvalidImage")) = some false
  x_NotRenaming_NotRenaming : PySem.W.exmOne K (.ref (atTop K "NotRenaming")) (.ref (atTop K "NotRenaming")) = some true
  x_InvalidLine_InvalidImage : PySem.W.exmOne K (.ref (atTop K "InvalidLine")) (.ref (atTop K "InvalidImage")) = some false
  x_InvalidLine_InvalidLine : PySem.W.exmOne K (.ref (atTop K "InvalidLine")) (.ref (atTop K "InvalidLine")) = some true
  x_NotCareful_InvalidImage : PySem.W.exmOne K (.ref (atTop K "NotCareful")) (.ref (atTop K "InvalidImage")) = some false
  x_NotCareful_InvalidLine : PySem.W.exmOne K (.ref (atTop K "NotCareful")) (.ref (atTop K "InvalidLine")) = some false
  x_NotCareful_NotCareful : PySem.W.exmOne K (.ref (atTop K "NotCareful")) (.ref (atTop K "NotCareful")) = some true
  k_InvalidImage_RedoError : PySem.W.kitOne K (.ref (atTop K "InvalidImage")) (.ref (atTop K "RedoError")) = some true
  k_InvalidImage_NotRenaming : PySem.W.kitOne K (.ref (atTop K "InvalidImage")) (.ref (atTop K "NotRenaming")) = some false
  k_NotRenaming_RedoError : PySem.W.kitOne K (.ref (atTop K "NotRenaming")) (.ref (atTop K "RedoError")) = some true
  k_NotRenaming_ValueError : PySem.W.kitOne K (.ref (atTop K "NotRenaming")) (.type "ValueError") = some true
  k_NotCareful_RedoError : PySem.W.kitOne K (.ref (atTop K "NotCareful")) (.ref (atTop K "RedoError")) = some true
  k_NotCareful_InvalidLine : PySem.W.kitOne K (.ref (atTop K "NotCareful")) (.ref (atTop K "InvalidLine")) = some false
local macro_rules | `(tactic| walk_at "hp") => `(tactic| first
  | assumption
  | exact upd_same
  | ((refine (upd_ne (by assumption)).trans ?_); walk_at "hp")
  | ((refine (upd_ne (Ne.symm (by assumption))).trans ?_); walk_at "hp")
  | ((refine Rv.Wg.tup (by assumption) ?_); walk_at "hp")
  | ((refine Rv.Wg.lst (by assumption) (by assumption) ?_); walk_at "hp")
  | ((refine Rv.Wd.tup (by assumption) ?_); walk_at "hp")
  | ((refine Rv.Wd.lst (by assumption) (by assumption) ?_); walk_at "hp"))
local macro_rules | `(tactic| walk_at "r1") => `(tactic| (first
  | ((with_reducible refine' rd_var ?hv ?_); (case hv => exact rfl))
  | with_reducible refine rd_c ?_
  | with_reducible refine rd_seq ?_
  | with_reducible refine rd_next ?_
  | with_reducible refine rd_asg ?_
  | with_reducible refine rd_name ?_
  | with_reducible refine rd_op ?_
  | with_reducible refine rd_un ?_
  | with_reducible refine rd_U ?_
  | with_reducible refine rd_I0 ?_
  | ((with_reducible refine' rd_I ?hc ?_); (case hc => first | exact .inr ⟨by decide, by decide⟩ | exact .inl ⟨by decide, by decide⟩ | exact ⟨by decide, by decide, by decide⟩ | exact ⟨by decide, by decide⟩ | (show (_ : Int) ≠ _; decide) | assumption))
  | ((with_reducible refine' rd_eq ?hc ?_); (case hc => exact rfl))
  | ((with_reducible refine' rd_ne ?hc ?_); (case hc => exact rfl))
  | with_reducible refine rd_test ?_
  | with_reducible refine rd_B ?_
  | with_reducible refine rd_k ?_
  | with_reducible refine rd_not ?_
  | with_reducible refine rd_notV ?_
  | with_reducible refine rd_and ?_
  | with_reducible refine rd_or ?_
  | with_reducible refine rd_andV ?_
  | with_reducible refine rd_if ?_
  | with_reducible refine rd_chain ?_
  | with_reducible refine rd_sub ?_
  | with_reducible refine rd_gcons ?_
  | with_reducible refine rd_gnil ?_
  | with_reducible refine rd_ret ?_
  | with_reducible refine rd_drop ?_
  | with_reducible refine rd_ifS ?_
  | with_reducible refine rd_cons ?_
  | with_reducible refine rd_nil ?_
  | with_reducible refine rd_CB ?_
  | with_reducible refine rd_call ?_
  | with_reducible refine rd_tup ?_
  | with_reducible refine rd_yes ?_
  | with_reducible refine rd_M1 ?_
  | with_reducible refine rd_intQ ?_
  | with_reducible refine rd_absQ ?_
  | with_reducible refine rd_minQ ?_
  | with_reducible refine rd_for ?_
  | with_reducible refine rd_lc ?_
  | with_reducible refine rd_iTup ?_
  | with_reducible refine rd_iList ?_
  | with_reducible refine rd_iRg1 ?_
  | ((with_reducible refine' rd_ItT ?hz ?_); (case hz => walk_at "hp"))
  | ((with_reducible refine' rd_ItL ?hz ?_); (case hz => walk_at "hp"))
  | ((with_reducible refine' rd_ixS ?hz ?he ?_); (case hz => assumption); (case he => assumption))
  | ((with_reducible refine' rd_lenZ ?hz ?_); (case hz => assumption))
  | ((with_reducible refine' rd_Rg1 ?hz ?_); (case hz => assumption))
  | with_reducible refine rd_sgn ?_
  | with_reducible refine rd_sl ?_
  | with_reducible refine rd_noP ?_
  | with_reducible refine rd_part ?_
  | with_reducible refine rd_i ?_
  | ((with_reducible refine' iteNS ?hz ?_); (case hz => assumption))
  | with_reducible refine iteT ?_
  | with_reducible refine iteF ?_
  | with_reducible refine iteNT ?_
  | with_reducible refine iteNF ?_
  | ((with_reducible refine' rd_isiI ?hk ?_); (case hk => first | exact kit_ii | exact kit_ib))
  | ((with_reducible refine' rd_isiS ?hk ?_); (case hk => exact kit_ss))
  | ((with_reducible refine' rd_isiT ?hz ?hk ?_); (case hz => walk_at "hp"); (case hk => exact kit_tt))
  | ((with_reducible refine' rd_isiL ?hz ?hk ?_); (case hz => walk_at "hp"); (case hk => exact kit_ll))
  | ((with_reducible refine' rd_lenT ?hz ?_); (case hz => walk_at "hp"))
  | ((with_reducible refine' rd_lenL ?hz ?_); (case hz => walk_at "hp"))
  | ((with_reducible refine' rd_ixT ?hz ?he ?_); (case hz => walk_at "hp"); (case he => first | exact rfl | assumption))
  | ((with_reducible refine' rd_ixM ?hz ?he ?_); (case hz => walk_at "hp"); (case he => first | exact rfl | assumption))
  | ((with_reducible refine' rd_setL ?hz ?he ?_); (case hz => walk_at "hp"); (case he => first | exact rfl | assumption))
  | ((with_reducible refine' rd_gtup ?hz ?he ?_); (case hz => walk_at "hp"); (case he => first | exact rfl | assumption))
  ))
local macro_rules | `(tactic| walk_at "rd") => `(tactic| repeat (walk_at "r1"))
local macro_rules | `(tactic| walk_at "re") => `(tactic| repeat (first
  | walk_at "r1"
  | ((with_reducible refine' rd_BMv ?hv ?hz ?_); (case hv => exact rfl); (case hz => walk_at "hp"))
  | ((with_reducible refine' rd_app ?hz ?hl ?_); (case hz => walk_at "hp"); (case hl => assumption))
  | with_reducible refine rd_iEnum ?_
  | ((with_reducible refine' rd_EnL ?hz ?_); (case hz => walk_at "hp"))
  | with_reducible refine rd_iStr ?_
  | with_reducible refine rd_ItS ?_
  ))
local macro_rules | `(tactic| walk_at "rn") => `(tactic| repeat (first
  | walk_at "r1"
  | ((with_reducible refine' rd_BMv ?hv ?hz ?_); (case hv => exact rfl); (case hz => walk_at "hp"))
  | ((with_reducible refine' rd_app ?hz ?hl ?_); (case hz => walk_at "hp"); (case hl => assumption))
  | with_reducible refine rd_iEnum ?_
  | ((with_reducible refine' rd_EnL ?hz ?_); (case hz => walk_at "hp"))
  | with_reducible refine rd_iStr ?_
  | with_reducible refine rd_ItS ?_
  | with_reducible refine rd_isN ?_
  | with_reducible refine rd_raise ?_
  | with_reducible refine rd_mkO ?_
  | with_reducible refine rd_callS ?_
  | with_reducible refine rd_xfQ ?_
  | with_reducible refine rd_callR ?_
  | with_reducible refine rd_tryM ?_
  | ((with_reducible refine' rd_isiN ?hk ?_); (case hk => exact kit_nt))
  ))
local macro_rules | `(tactic| walk_at "rx") => `(tactic| repeat (first
  | ((with_reducible refine' rd_isG ?hz ?_); (case hz => assumption))
  | ((with_reducible refine' rd_ixO ?hz ?he ?_); (case hz => assumption); (case he => first | exact rfl | assumption))
  | ((with_reducible refine' rd_lenO ?hz ?_); (case hz => assumption))
  | ((with_reducible refine' rd_isO ?hz ?_); (case hz => assumption))
  | with_reducible refine rd_iEnO ?_
  | with_reducible refine rd_intOI ?_
  | ((with_reducible refine' rd_lstO ?hz ?_); (case hz => assumption))
  | ((with_reducible refine' rd_ItO ?hz ?_); (case hz => assumption))
  | with_reducible refine rd_iZpA ?_
  | with_reducible refine rd_tupN ?_
  | with_reducible refine rd_lstN ?_
  | ((with_reducible refine' rd_lstLN ?hz ?_); (case hz => walk_at "hp"))
  | ((with_reducible refine' rd_lstTN ?hz ?_); (case hz => walk_at "hp"))
  | ((with_reducible refine' rd_tupLN ?hz ?_); (case hz => walk_at "hp"))
  | ((with_reducible refine' rd_slLN ?hz ?_); (case hz => walk_at "hp"))
  | walk_at "r1"
  | ((with_reducible refine' rd_BMv ?hv ?hz ?_); (case hv => exact rfl); (case hz => walk_at "hp"))
  | ((with_reducible refine' rd_app ?hz ?hl ?_); (case hz => walk_at "hp"); (case hl => assumption))
  | with_reducible refine rd_iEnum ?_
  | ((with_reducible refine' rd_EnL ?hz ?_); (case hz => walk_at "hp"))
  | with_reducible refine rd_iStr ?_
  | with_reducible refine rd_ItS ?_
  | with_reducible refine rd_isN ?_
  | with_reducible refine rd_raise ?_
  | with_reducible refine rd_mkO ?_
  | with_reducible refine rd_callS ?_
  | with_reducible refine rd_xfQ ?_
  | with_reducible refine rd_callR ?_
  | with_reducible refine rd_tryM ?_
  | ((with_reducible refine' rd_isiN ?hk ?_); (case hk => exact kit_nt))
  ))
section
variable {P : Program} {w : World} {K : PySem.W.Frag} {mg : Str → Option Value} {base : Heap}
def sp_law_box (K : PySem.W.Frag) : Sp := fun vs H Q _ => ∃ (a : Addr) (ns : List Int) (k : Nat), vs = [.ref a, .int (k : Int)] ∧ SqL K H a (ns.map V.int) ∧ ns.length ≤ 63 ∧ k ≤ 100 ∧ ∀ H' b, Same H H' → H b = none → (bkL b).I H' → Q (.ref b) H'
set_option maxHeartbeats 4000000 in
theorem ok_law_box (T : Top K mg) {f : Addr} {fd : FuncData} (D : Def K mg "_law_box" s_law_box ["script", "at"] f fd) : FnOk P w K mg base CX0 1 f fd ["script", "at"] (sp_law_box K) := by
  refine D.F.ok sc_law_box (fun vs H Q E h => ?_) (fun cdv A outer s H vs Q E hr h => ?_)
  · obtain ⟨a, ns, k, rfl, _⟩ := h
    rfl
  · obtain ⟨a, ns, k, rfl, hS, hl, k100, q⟩ := h
    refine ⟨_, (C8.pss_cut (ps_if (pt_cmpR op_lt (pv 1) (pe_callB (r := rLenQ K) call_lenQ (by rfl) T.b_len PySem.boot_len (pa_cons (pv 0) pa_nil)) (nomark _)) (pss_one (ps_set (i := 2) sc_law_box.nd rfl (.inl rfl) (pe_ix (r := rIxL K) ix_list (pv 0) (pv 1) (fun _ _ => rfl)))) (pss_one (ps_set (i := 2) sc_law_box.nd rfl (.inl rfl) (pe_op op_add (pe_op op_modN (pe_callTy (r := rIntO) call_intO (by rfl) T.b_int (by decide +kernel) (pa_cons (pe_callB (cr_sum rfl) (by rfl) T.b_sum (by decide +kernel) (pa_cons (pe_slice sl_list (pv 0) po_none (po_some pe_int)) pa_nil)) pa_nil)) pe_int) (pe_op op_mul pe_int (pv 1))))))
    (pss_one (ps_ret (pe_lst (pa_cons (pe_callB call_absQ (by rfl) T.b_abs (by decide +kernel) (pa_cons (pv 2) pa_nil)) (pa_cons (pe_callTy (r := rIntO) call_intO (by rfl) T.b_int (by decide +kernel) (pa_cons (pe_cmpR op_ge (pe_callB call_absQ (by rfl) T.b_abs (by decide +kernel) (pa_cons (pv 2) pa_nil)) (pe_op op_pow pe_int pe_int) (nomark _)) pa_nil)) (pa_cons (pe_op op_add (pe_op op_modN (pe_callTy (r := rIntO) call_intO (by rfl) T.b_int (by decide +kernel) (pa_cons (pv 2) pa_nil)) pe_int) (pe_op op_mul pe_int (pv 1))) (pa_cons pe_int pa_nil)))))))), ?_⟩
    walk_at "rx"
    refine ⟨fun σ H1 => ∃ cell, σ = [some (.ref a), some (.int (k : Int)), some (.int cell)] ∧ Same H H1, ?_, ?_⟩
    · walk_at "rx"
      refine ⟨a, _, rfl, .inl hS, ?_⟩
      walk_at "rx"
      rw [List.length_map]
      by_cases z : k < ns.length
      · rw [decide_eq_true (show (k : Int) < ((ns.length : Nat) : Int) by omega)]
        walk_at "rx"
        refine rd_ixL hS (atI_ints (by omega) (by omega)) ?_
        walk_at "rx"
        exact ⟨_, rfl, Same.refl _⟩
      · rw [decide_eq_false (show ¬ (k : Int) < ((ns.length : Nat) : Int) by omega)]
        walk_at "rx"
        refine rd_slL hS fun l nl => ?_
        obtain ⟨ms, em⟩ : ∃ ms : List Int, cutV (ns.map V.int) none (some 1) = ms.map V.int := ⟨ns.take (HT.sIx (ns.map V.int).length (ns.map V.int).length (some 1) - 0), by
          unfold cutV
          show List.take _ (List.drop 0 (ns.map V.int)) = _
          rw [List.drop_zero, List.map_take]
          rfl⟩
        rw [em]
        obtain ⟨H1, eH, S1, h1⟩ := new_gen (.lst (ms.map V.int)) nl
        rw [← eH]
        refine ⟨l, ms, rfl, SqL.of h1, ?_⟩
        walk_at "rx"
        exact ⟨_, rfl, S1⟩
    · rintro σ H1 ⟨cell, rfl, S1⟩
      walk_at "rx"
      refine rd_intOB ?_
      walk_at "rx"
      refine rd_newQ (by simp) fun H2 b S2 nb hb => q H2 b (S1.trans S2) (S1.free nb) ⟨_, _, _, _, hb⟩
def sp_law_take (_K : PySem.W.Frag) : Sp := fun vs H Q _ => ∃ (B : Box) (m : Int), vs = [.ref B.b, .int m] ∧ IsBk B ∧ B.I H ∧ 0 < m ∧ m ≤ 10 ^ 30 ∧ ∀ H' (d : Nat), Wg B H H' → (d : Int) < m → Q (.int d) H'
set_option maxHeartbeats 4000000 in
theorem ok_law_take (T : Top K mg) {f : Addr} {fd : FuncData} (D : Def K mg "_law_take" s_law_take ["box", "limit"] f fd) : FnOk P w K mg base CX0 1 f fd ["box", "limit"] (sp_law_take K) := by
  refine D.F.ok sc_law_take (fun vs H Q E h => ?_) (fun cdv A outer s H vs Q E hr h => ?_)
  · obtain ⟨B, m, rfl, _⟩ := h
    rfl
  · obtain ⟨B, m, rfl, ⟨b, rfl⟩, i0, m0, m1, q0⟩ := h
    have q : ∀ H' (d : Int), Wg (bkL b) H H' → 0 ≤ d → d < m → Q (.int d) H' := fun H' d w h0 h1 => by
      have z := q0 H' d.toNat w (by omega)
      rw [show ((d.toNat : Nat) : Int) = d by omega] at z
      exact z
    have w0 := Wg.refl i0
    have ⟨A, f, M, c, hb⟩ := i0
    have m9 : m ≠ 0 := by omega
    show _
    refine ⟨_, (pss_cons (ps_asg (pe_op op_add (pe_ix (r := rIxL K) ix_list (pv 0) pe_int (fun _ _ => rfl)) pe_int) (pg_sub (pv 0) pe_int set_list))
    (pss_cons (ps_if (PW.pt (pw_and (pt_cmpR op_eq (pe_ix (r := rIxL K) ix_list (pv 0) pe_int (fun _ _ => rfl)) pe_int (nomark _)) (pw_and1 (pt_cmpR op_gt (pe_ix (r := rIxL K) ix_list (pv 0) pe_int (fun _ _ => rfl)) pe_int (nomark _))))) (pss_cons (ps_set (i := 2) sc_law_take.nd rfl (.inl rfl) (pe_op op_modN (pe_callTy call_intQ (by rfl) T.b_int (by decide +kernel) (pa_cons (pe_ix (r := rIxL K) ix_list (pv 0) pe_int (fun _ _ => rfl)) pa_nil)) (pv 1)))
    (pss_cons (ps_asg (pe_op op_fdivV (pe_ix (r := rIxL K) ix_list (pv 0) pe_int (fun _ _ => rfl)) (pv 1)) (pg_sub (pv 0) pe_int set_list))
    (pss_one (ps_ret (pv 2))))) pss_nil)
    (pss_cons (ps_set (i := 3) sc_law_take.nd rfl (.inl rfl) (pe_op op_modN (pe_callTy call_intQ (by rfl) T.b_int (by decide +kernel) (pa_cons (pe_op op_add (pe_op op_add (pe_op op_mul (pe_ix (r := rIxL K) ix_list (pv 0) pe_int (fun _ _ => rfl)) pe_int) (pe_op op_mul (pe_ix (r := rIxL K) ix_list (pv 0) pe_int (fun _ _ => rfl)) pe_int)) pe_int) pa_nil)) pe_int))
    (pss_cons (ps_set (i := 3) sc_law_take.nd rfl (.inl rfl) (pe_op op_modN (pe_callTy call_intQ (by rfl) T.b_int (by decide +kernel) (pa_cons (pe_op op_add (pe_op op_mul (pv 3) (pe_op op_add (pv 3) (pe_op op_mul pe_int (pe_ix (r := rIxL K) ix_list (pv 0) pe_int (fun _ _ => rfl))))) (pe_op op_mul pe_int (pe_ix (r := rIxL K) ix_list (pv 0) pe_int (fun _ _ => rfl)))) pa_nil)) pe_int))
    (pss_one (ps_ret (pe_op op_modN (pe_callTy call_intQ (by rfl) T.b_int (by decide +kernel) (pa_cons (pe_op op_fdivN (pv 3) pe_int) pa_nil)) (pv 1)))))))), ?_⟩
    have hvb : (bkL b).b = b := rfl
    rw [hvb]
    walk_at "rx"
    have w1 : Wg (bkL b) H (upd H b (.lst ([V.int A, .int f, .int M, .int c].set 3 (.int (c + 1))))) := bk_put w0
    have cm : ∀ a b : Int, CMul (a.fmod 2147483647) b := fun a b => .inl ⟨by have := fmod_in (a := a) (m := 2147483647) (by decide); omega, by have := fmod_in (a := a) (m := 2147483647) (by decide); omega⟩
    refine ite2 (fun z => ?_) (fun z => ?_)
    · walk_at "rx"
      refine ite2 (fun x => ?_) (fun x => ?_)
      · walk_at "rx"
        refine rd_I (show CDivV A m from ⟨m0, m1⟩) ?_
        walk_at "rx"
        exact q _ _ (bk_put w1) (fmod_in m0).1 (fmod_in m0).2
      · walk_at "rx"
        refine rd_I (cm _ _) ?_
        walk_at "rx"
        exact q _ _ w1 (fmod_in m0).1 (fmod_in m0).2
    · walk_at "rx"
      refine rd_I (cm _ _) ?_
      walk_at "rx"
      exact q _ _ w1 (fmod_in m0).1 (fmod_in m0).2
def sp_law_laid (_K : PySem.W.Frag) : Sp := fun vs H Q _ => ∃ (B : Box) (n : Nat) (L : Addr) (xs : List Int), vs = [.ref B.b, .int (n : Int), .ref L] ∧ IsBk B ∧ B.I H ∧ L ∉ B.m ∧ H L = some (.lst (xs.map V.int)) ∧ xs.length ≤ n ∧ 1 ≤ n ∧ n ≤ 12 ∧
  ∀ H' D es, Wg B H H' → GT H' D es → es.Perm (xs ++ List.replicate (n - xs.length) (-1)) → Q (.ref D) H'
set_option maxHeartbeats 4000000 in
theorem ok_law_laid (T : Top K mg) {f : Addr} {fd : FuncData} (D : Def K mg "_law_laid" s_law_laid ["box", "blocks", "values"] f fd) : FnOk P w K mg base CX0 2 f fd ["box", "blocks", "values"] (sp_law_laid K) := by
  obtain ⟨f_law_take, fd_law_take, D_law_take⟩ := T.d__law_take
  have G_law_take : FnOk P w K mg base CX0 1 f_law_take fd_law_take ["box", "limit"] (sp_law_take K) := ok_law_take T D_law_take
  refine D.F.ok sc_law_laid (fun vs H Q E h => ?_) (fun cdv A outer s H vs Q E hr h => ?_)
  · obtain ⟨B, n, L, xs, rfl, _⟩ := h
    rfl
  · obtain ⟨B, n, L, xs, rfl, hB, i0, mL, hL, lx, n1, n12, q⟩ := h
    have hr1 : -100000 ≤ (n : Int) ∧ (n : Int) ≤ 100000 := by omega
    refine ⟨_, (pss_cons (ps_setLc (i := 3) (own := [("k", 7)]) (g := gName 7) (tt := tYes) rfl sc_law_laid.nd rfl rfl (sw_true rfl rfl rfl (by decide +kernel)) (pi_range1 (by rfl) T.b_range (pa_cons (pv 1) pa_nil))
      (blkOk_by (own := [("k", 7)]) (N := ["box", "blocks", "values", "free", "laid", "value", "at", "k"]) (sc := defScope s_law_laid) (by decide +kernel)) (fun _ _ _ _ _ => (pg_name (i := 7) sc_law_laid.nd rfl (.inl rfl))) (fun _ _ _ _ _ => pts_nil)
      (fun _ _ _ _ _ => (pv 7)))
    (pss_cons (ps_set (i := 4) sc_law_laid.nd rfl (.inl rfl) (pe_op op_rep (pe_lst (pa_cons (pe_un un_neg pe_int) pa_nil)) (pv 1)))
    (pss_cons (ps_for PassesOwn.never rfl (pi_list (pv 2)) (pg_name (i := 5) sc_law_laid.nd rfl (.inl rfl)) (pss_cons (ps_set (i := 6) sc_law_laid.nd rfl (.inl rfl) (pe_bm PySem.F.plainAttrs_list PySem.F.slot_list_pop PySem.F.type_list_pop mt_popQ (pv 3) (pa_cons (pe_call G_law_take hr (by rfl) D_law_take.g D_law_take.F.kp D_law_take.b .nil pass0 (pa_cons (pv 0) (pa_cons (pe_callB (r := rLenQ K) call_lenQ (by rfl) T.b_len PySem.boot_len (pa_cons (pv 3) pa_nil)) pa_nil))) pa_nil)))
    (pss_one (ps_asg (pv 5) (pg_sub (pv 4) (pv 6) set_list)))))
    (pss_one (ps_ret (pe_callTy (r := rTupF K) call_tupF (by rfl) T.b_tuple (by decide +kernel) (pa_cons (pv 4) pa_nil))))))), ?_⟩
    walk_at "rx"
    rw [show ((n : Int)).toNat = n by omega]
    refine lc_acc walk_rng (fun i acc => acc = nvs (List.range i)) rfl (fun i acc hi e => by rw [e, nvs_len, List.length_range]; omega) (fun _ _ => trivial) ?_ ?_
    · rintro i x Hx Hy acc Qc R hi Sx e ⟨rfl, rfl⟩ qc rc
      walk_at "rx"
      refine ⟨rfl, ?_⟩
      walk_at "rx"
      refine qc _ _ (Same.refl _) ?_
      rw [e, List.range_succ, nvs_app]
      rfl
    intro H1 F acc S1 nF hF e
    subst e
    walk_at "rx"
    refine rd_newQ (by simp) fun H2 O S2 nO hO => ?_
    walk_at "rx"
    refine rd_rep (k := (n : Int)) hO (by omega) (by omega) (by decide) fun D nD => ?_
    obtain ⟨H3, eH, S3, hD⟩ := new_gen (.lst (List.replicate ((n : Int)).toNat [V.int (-1)]).flatten) nD
    rw [← eH]
    rw [flat_one, show ((n : Int)).toNat = n by omega, ← List.map_replicate] at hD
    have S03 := (S1.trans S2).trans S3
    have w3 := Wg.ofSame i0 S03
    have hF3 := S3 _ _ (S2 _ _ hF)
    have nF0 := nF
    have nD0 := (S1.trans S2).free nD
    have mF : F ∉ B.m := B.nem i0 nF
    have mD : D ∉ B.m := B.nem i0 nD0
    have nFD : F ≠ D := fun z => by
      have := S2 _ _ hF
      rw [z, nD] at this
      cases this
    have nLF : L ≠ F := fun z => by rw [z, nF] at hL; cases hL
    have nLD : L ≠ D := fun z => by rw [z, nD0] at hL; cases hL
    have hL3 := S03 _ _ hL
    walk_at "rx"
    refine fr_it (walk_list (xs := xs.map V.int)) (fun i σ H' => ∃ (fr : List Nat) (ls : List Int) (y5 y6 y7 : Option V), σ = [some (.ref B.b), some (.int (n : Int)), some (.ref L), some (.ref F), some (.ref D), y5, y6, y7] ∧ Wg B H H' ∧ H' L = some (.lst (xs.map V.int)) ∧ H' F = some (.lst (nvs fr)) ∧ H' D = some (.lst (ls.map V.int)) ∧
        fr.Nodup ∧ fr.length + i = n ∧ ls.length = n ∧ (∀ f ∈ fr, ls[f]? = some (-1)) ∧ ls.Perm (xs.take i ++ List.replicate (n - i) (-1)))
      ⟨List.range n, List.replicate n (-1), none, none, none, rfl, w3, hL3, hF3, hD, List.nodup_range, by rw [List.length_range]; rfl, by rw [List.length_replicate], fun f hf => by rw [List.getElem?_replicate, if_pos (List.mem_range.mp hf)], List.Perm.refl _⟩ (fun i σ H' _ p => ?_) ?_ ?_
    · obtain ⟨_, _, _, _, _, _, _, h, _⟩ := p
      exact SqL.of h
    · rintro i x σ Ha Hb hi ⟨fr, ls, y5, y6, y7, rfl, wa, hLa, hFa, hDa, nd, lf, ll, neg, pm⟩ ⟨eH2, ex⟩
      subst eH2
      have hi2 : i < xs.length := by rw [List.length_map] at hi; exact hi
      rw [List.getElem?_map, List.getElem?_eq_getElem hi2] at ex
      cases ex
      have lfr : 0 < fr.length := by omega
      have f13 : ((nvs fr).length : Int) ≤ 10 ^ 30 := by rw [nvs_len]; omega
      walk_at "rx"
      refine ⟨B, ((nvs fr).length : Nat), rfl, hB, wa.i1, by rw [nvs_len]; omega, f13, fun Hc d wc hd => ?_⟩
      rw [nvs_len] at hd
      have hFc := wc.lst mF hFa
      have hDc := wc.lst mD hDa
      have hLc := wc.lst mL hLa
      have hd2 : d < fr.length := by omega
      have ed : fr[d]? = some fr[d] := List.getElem?_eq_getElem hd2
      walk_at "rx"
      refine rd_popQ hFc (nvs_get ed) (by omega) ?_
      have hD2 : (upd Hc F (.lst ((nvs fr).eraseIdx d))) D = some (.lst (ls.map V.int)) := by rw [upd_ne nFD.symm]; exact hDc
      have hL2 : (upd Hc F (.lst ((nvs fr).eraseIdx d))) L = some (.lst (xs.map V.int)) := by rw [upd_ne nLF]; exact hLc
      have w2 : Wg B H (upd Hc F (.lst ((nvs fr).eraseIdx d))) := (wa.trans wc).mut nF0
      have hF2 : (upd Hc F (.lst ((nvs fr).eraseIdx d))) F = some (.lst (nvs (fr.eraseIdx d))) := by rw [upd_same, nvs_eraseIdx]
      generalize upd Hc F (.lst ((nvs fr).eraseIdx d)) = H5 at *
      have en := neg _ (List.getElem_mem hd2)
      have lt := (List.getElem?_eq_some_iff.mp en).1
      have ix : ixN (ls.map V.int).length ((fr[d] : Nat) : Int) = some fr[d] := ixN_of rfl (by rw [List.length_map]; exact lt)
      walk_at "rx"
      obtain ⟨p1, p2⟩ := set_perm (v := xs[i]) en
      refine ⟨fr.eraseIdx d, ls.set fr[d] xs[i], _, _, _, rfl, w2.mut nD0, by rw [upd_ne nLD]; exact hL2, by rw [upd_ne nFD]; exact hF2, by rw [upd_same, List.map_set], erase_nd nd d, ?_, by rw [List.length_set]; exact ll, fun f hf => ?_, ?_⟩
      · rw [List.length_eraseIdx_of_lt hd2]
        omega
      · have ne : fr[d] ≠ f := fun z => erase_ne nd ed (by rw [z]; exact hf)
        rw [List.getElem?_set_ne ne]
        exact neg f (erase_mem hf)
      · have k1 : n - i = (n - (i + 1)) + 1 := by omega
        rw [k1, List.replicate_succ] at pm
        have a := List.Perm.cons_inv ((p2.symm.trans pm).trans List.perm_middle)
        rw [take_next hi2, List.append_assoc]
        exact p1.trans ((a.cons _).trans List.perm_middle.symm)
    · rintro σ Ha ⟨fr, ls, y5, y6, y7, rfl, wa, hLa, hFa, hDa, nd, lf, ll, neg, pm⟩
      rw [List.length_map, List.take_length] at pm
      walk_at "rx"
      exact rd_tupF hDa fun H2 l S2 nl gl => q H2 l ls (wa.same S2) gl pm
def sp_law_values (_K : PySem.W.Frag) : Sp := fun vs H Q _ => ∃ (B : Box) (m : Nat), vs = [.ref B.b, .int (m : Int)] ∧ IsBk B ∧ B.I H ∧ m ≤ 12 ∧ ∀ H' D (xs : List Int), Wg B H H' → H D = none → H' D = some (.lst (xs.map V.int)) → xs.length = m → xs.Nodup → (∀ x ∈ xs, 0 ≤ x ∧ x ≤ 999) → Q (.ref D) H'
set_option maxHeartbeats 4000000 in
theorem ok_law_values (T : Top K mg) {f : Addr} {fd : FuncData} (D : Def K mg "_law_values" s_law_values ["box", "many"] f fd) : FnOk P w K mg base CX0 2 f fd ["box", "many"] (sp_law_values K) := by
  obtain ⟨f_law_take, fd_law_take, D_law_take⟩ := T.d__law_take
  have G_law_take : FnOk P w K mg base CX0 1 f_law_take fd_law_take ["box", "limit"] (sp_law_take K) := ok_law_take T D_law_take
  refine D.F.ok sc_law_values (fun vs H Q E h => ?_) (fun cdv A outer s H vs Q E hr h => ?_)
  · obtain ⟨B, m, rfl, _⟩ := h
    rfl
  · obtain ⟨B, m, rfl, hB, i0, m12, q⟩ := h
    have hr1 : -100000 ≤ (m : Int) ∧ (m : Int) ≤ 100000 := by omega
    refine ⟨_, (pss_cons (ps_set (i := 2) sc_law_values.nd rfl (.inl rfl) (pe_call G_law_take hr (by rfl) D_law_take.g D_law_take.F.kp D_law_take.b .nil pass0 (pa_cons (pv 0) (pa_cons pe_int pa_nil))))
    (pss_cons (ps_set (i := 3) sc_law_values.nd rfl (.inl rfl) (pe_call G_law_take hr (by rfl) D_law_take.g D_law_take.F.kp D_law_take.b .nil pass0 (pa_cons (pv 0) (pa_cons pe_int pa_nil))))
    (pss_cons (ps_set (i := 4) sc_law_values.nd rfl (.inl rfl) (pe_lst pa_nil))
    (pss_cons (ps_for PassesOwn.never rfl (pi_range1 (by rfl) T.b_range (pa_cons (pv 1) pa_nil)) (pg_name (i := 5) sc_law_values.nd rfl (.inl rfl)) (pss_cons (ps_set (i := 6) sc_law_values.nd rfl (.inl rfl) (pe_call G_law_take hr (by rfl) D_law_take.g D_law_take.F.kp D_law_take.b .nil pass0 (pa_cons (pv 0) (pa_cons pe_int pa_nil))))
    (C8.pss_cut (ps_if (PW.pt (pw_or (pt_cmpR op_eq (pv 2) pe_int (nomark _)) (pw_or1 (PW.pt (pw_and (pt_cmpR op_eq (pv 2) pe_int (nomark _)) (pw_and1 (pt_cmpR op_eq (pe_call G_law_take hr (by rfl) D_law_take.g D_law_take.F.kp D_law_take.b .nil pass0 (pa_cons (pv 0) (pa_cons pe_int pa_nil))) pe_int (nomark _)))))))) (pss_one (ps_set (i := 6) sc_law_values.nd rfl (.inl rfl) (pe_op op_add (pe_op op_mul (pv 3) pe_int) (pe_op op_modN (pe_callTy call_intQ (by rfl) T.b_int (by decide +kernel) (pa_cons (pv 6) pa_nil)) pe_int)))) pss_nil)
    (pss_cons (ps_for PassesOwn.never rfl (pi_range1 (by rfl) T.b_range (pa_cons pe_int pa_nil)) (pg_name (i := 7) sc_law_values.nd rfl (.inl rfl)) (pss_one (ps_if (pt_cmpR (r := rIn K false) op_in_seq (pv 6) (pv 4) (by rfl)) (pss_one (ps_set (i := 6) sc_law_values.nd rfl (.inl rfl) (pe_op op_add (pe_op op_mul (pe_op op_fdivN (pv 6) pe_int) pe_int) (pe_op op_modN (pe_callTy call_intQ (by rfl) T.b_int (by decide +kernel) (pa_cons (pe_op op_add (pv 6) pe_int) pa_nil)) pe_int)))) pss_nil)))
    (pss_one (ps_expr (pe_bm PySem.F.plainAttrs_list PySem.F.slot_list_append PySem.F.type_list_append mt_append (pv 4) (pa_cons (pv 6) pa_nil))))))))
    (pss_one (ps_ret (pv 4))))))), ?_⟩
    walk_at "rx"
    refine ⟨B, 3, rfl, hB, i0, by decide, by decide, fun H1 way w1 hw => ?_⟩
    walk_at "rx"
    refine ⟨B, 10, rfl, hB, w1.i1, by decide, by decide, fun H2 kind w2 hk => ?_⟩
    walk_at "rx"
    refine rd_newQ (by simp) fun H3 D S3 nD hD => ?_
    have w3 := (w1.trans w2).same S3
    have mD : D ∉ B.m := B.nem (w1.trans w2).i1 nD
    have nD0 := (w1.trans w2).free nD
    walk_at "rx"
    rw [show ((m : Int)).toNat = m by omega]
    refine fr_rng0 (fun i σ H' => ∃ (xs : List Int) (y5 y6 y7 : Option V), σ = [some (.ref B.b), some (.int (m : Int)), some (.int (way : Int)), some (.int (kind : Int)), some (.ref D), y5, y6, y7] ∧ Wg B H H' ∧ H' D = some (.lst (xs.map V.int)) ∧ xs.length = i ∧ xs.Nodup ∧ ∀ x ∈ xs, 0 ≤ x ∧ x ≤ 999) ⟨[], none, none, none, rfl, w3, hD, rfl, List.nodup_nil, fun x hx => by cases hx⟩ ?_ ?_
    · rintro i σ Ha hi ⟨xs, y5, y6, y7, rfl, wa, hDa, lx, nd, rg⟩
      walk_at "rx"
      refine ⟨B, 1000, rfl, hB, wa.i1, by decide, by decide, fun Hb v0 wb hv0 => ?_⟩
      have hDb := wb.lst mD hDa
      have wab := wa.trans wb
      walk_at "rx"
      refine ⟨fun σ' H' => ∃ v : Int, 0 ≤ v ∧ v ≤ 999 ∧ σ' = [some (.ref B.b), some (.int (m : Int)), some (.int (way : Int)), some (.int (kind : Int)), some (.ref D), some (.int (i : Int)), some (.int v), y7] ∧ Wg B H H' ∧ H' D = some (.lst (xs.map V.int)), ?_, ?_⟩
      · have st := fmod_in (a := (v0 : Int)) (m := 100) (by decide)
        walk_at "rx"
        refine ite2 (fun z => ?_) (fun z => ?_)
        · walk_at "rx"
          exact ⟨_, by omega, by omega, rfl, wab, hDb⟩
        · walk_at "rx"
          refine ite2 (fun z2 => ?_) (fun z2 => ?_)
          · walk_at "rx"
            refine ⟨B, 2, rfl, hB, wab.i1, by decide, by decide, fun Hc d wc hd => ?_⟩
            have hDc := wc.lst mD hDb
            walk_at "rx"
            refine ite2 (fun z3 => ?_) (fun z3 => ?_)
            · walk_at "rx"
              exact ⟨_, by omega, by omega, rfl, wab.trans wc, hDc⟩
            · walk_at "rx"
              exact ⟨_, by omega, by omega, rfl, wab.trans wc, hDc⟩
          · walk_at "rx"
            exact ⟨_, by omega, by omega, rfl, wab, hDb⟩
      · rintro σ' Hc ⟨v, v0', v1', rfl, wc, hDc⟩
        have h12 : -100000 ≤ (12 : Int) ∧ (12 : Int) ≤ 100000 := by decide
        walk_at "rx"
        refine fr_rng0 (fun j σ H' => ∃ (k : Nat) (u : Int) (y7 : Option V), σ = [some (.ref B.b), some (.int (m : Int)), some (.int (way : Int)), some (.int (kind : Int)), some (.ref D), some (.int (i : Int)), some (.int u), y7] ∧ H' = Hc ∧ Cand (c100 v) xs k j u) ⟨0, v, y7, rfl, rfl, by have := Cand.zero (c := c100 v) (found := xs); rw [c100_zero] at this; exact this⟩ ?_ ?_
        · rintro j σ H' hj ⟨k, u, y7, rfl, rfl, cd⟩
          have ur : 0 ≤ u ∧ u ≤ 999 := by rw [cd.eq]; exact c100_in v0' v1' k
          walk_at "rx"
          refine rd_inLf hDc rfl (ints_flat xs) ?_
          rw [inV_ints]
          by_cases z : u ∈ xs
          · rw [decide_eq_true z]
            walk_at "rx"
            refine ⟨k + 1, _, _, rfl, rfl, ?_⟩
            have := cd.step z
            rw [c100_next, ← cd.eq] at this
            exact this
          · rw [decide_eq_false z]
            walk_at "rx"
            exact ⟨k, u, _, rfl, rfl, cd.stay z⟩
        · rintro σ H' ⟨k, u, y7, rfl, rfl, cd⟩
          have ur : 0 ≤ u ∧ u ≤ 999 := by rw [cd.eq]; exact c100_in v0' v1' k
          have nu := cd.done (by omega) (fun a b ha hb e => c100_inj v a b ha hb e)
          have l1000 : (xs.map V.int).length < 1000 := by rw [List.length_map]; omega
          walk_at "rx"
          refine ⟨xs ++ [u], _, _, _, rfl, wc.mut nD0, by rw [upd_same, List.map_append]; rfl, by rw [List.length_append, lx]; rfl, ?_, fun x hx => ?_⟩
          · rw [List.nodup_append]
            exact ⟨nd, by simp, fun a ha b hb e => nu (by rw [← List.mem_singleton.mp hb, ← e]; exact ha)⟩
          · rcases List.mem_append.mp hx with y | y
            · exact rg x y
            · rw [List.mem_singleton.mp y]; exact ur
    · rintro σ Ha ⟨xs, y5, y6, y7, rfl, wa, hDa, lx, nd, rg⟩
      walk_at "rx"
      exact q Ha D xs wa nD0 hDa lx nd rg
def sp_law_before (_K : PySem.W.Frag) : Sp := fun vs H Q _ => ∃ (B : Box), vs = [.ref B.b] ∧ IsBk B ∧ B.I H ∧ ∀ H' a es, Wg B H H' → GT H' a es → Img es → (full es).Nodup → Q (.ref a) H'
set_option maxHeartbeats 4000000 in
theorem ok_law_before (T : Top K mg) {f : Addr} {fd : FuncData} (D : Def K mg "_law_before" s_law_before ["box"] f fd) : FnOk P w K mg base CX0 3 f fd ["box"] (sp_law_before K) := by
  obtain ⟨f_law_take, fd_law_take, D_law_take⟩ := T.d__law_take
  have G_law_take : FnOk P w K mg base CX0 1 f_law_take fd_law_take ["box", "limit"] (sp_law_take K) := ok_law_take T D_law_take
  obtain ⟨f_law_laid, fd_law_laid, D_law_laid⟩ := T.d__law_laid
  have G_law_laid : FnOk P w K mg base CX0 2 f_law_laid fd_law_laid ["box", "blocks", "values"] (sp_law_laid K) := ok_law_laid T D_law_laid
  obtain ⟨f_law_values, fd_law_values, D_law_values⟩ := T.d__law_values
  have G_law_values : FnOk P w K mg base CX0 2 f_law_values fd_law_values ["box", "many"] (sp_law_values K) := ok_law_values T D_law_values
  refine D.F.ok sc_law_before (fun vs H Q E h => ?_) (fun cdv A outer s H vs Q E hr h => ?_)
  · obtain ⟨B, rfl, _⟩ := h
    rfl
  · obtain ⟨B, rfl, hB, i0, q⟩ := h
    refine ⟨_, (pss_cons (ps_set (i := 1) sc_law_before.nd rfl (.inl rfl) (pe_op op_add pe_int (pe_call G_law_take (hr.mono (by decide)) (by rfl) D_law_take.g D_law_take.F.kp D_law_take.b .nil pass0 (pa_cons (pv 0) (pa_cons pe_int pa_nil)))))
    (pss_cons (ps_set (i := 2) sc_law_before.nd rfl (.inl rfl) (pe_call G_law_take (hr.mono (by decide)) (by rfl) D_law_take.g D_law_take.F.kp D_law_take.b .nil pass0 (pa_cons (pv 0) (pa_cons (pe_op op_add (pv 1) pe_int) pa_nil))))
    (pss_cons (ps_set (i := 3) sc_law_before.nd rfl (.inl rfl) (pe_call G_law_take (hr.mono (by decide)) (by rfl) D_law_take.g D_law_take.F.kp D_law_take.b .nil pass0 (pa_cons (pv 0) (pa_cons pe_int pa_nil))))
    (C8.pss_cut (ps_if (pt_cmpR op_gt (pv 3) pe_int (nomark _)) (pss_one (ps_set (i := 2) sc_law_before.nd rfl (.inl rfl) (pe_callB (call_minQ rfl) (by rfl) T.b_min (by decide +kernel) (pa_cons (pe_callB (call_max2 rfl) (by rfl) T.b_max (by decide +kernel) (pa_cons pe_int (pa_cons (pe_op op_sub (pv 1) pe_int) pa_nil))) (pa_cons (pv 3) pa_nil))))) pss_nil)
    (pss_one (ps_ret (pe_call G_law_laid hr (by rfl) D_law_laid.g D_law_laid.F.kp D_law_laid.b .nil pass0 (pa_cons (pv 0) (pa_cons (pv 1) (pa_cons (pe_call G_law_values hr (by rfl) D_law_values.g D_law_values.F.kp D_law_values.b .nil pass0 (pa_cons (pv 0) (pa_cons (pe_op op_sub (pv 1) (pv 2)) pa_nil))) pa_nil)))))))))), ?_⟩
    walk_at "rx"
    refine ⟨B, 12, rfl, hB, i0, by decide, by decide, fun H1 d w1 hd => ?_⟩
    walk_at "rx"
    refine ⟨B, _, rfl, hB, w1.i1, by omega, by omega, fun H2 e0 w2 he => ?_⟩
    walk_at "rx"
    refine ⟨B, 4, rfl, hB, w2.i1, by decide, by decide, fun H3 way w3 hway => ?_⟩
    have w03 := (w1.trans w2).trans w3
    walk_at "rx"
    refine ⟨fun σ H' => ∃ e : Nat, e ≤ 1 + d ∧ σ = [some (.ref B.b), some (.int (1 + (d : Int))), some (.int (e : Int)), some (.int (way : Int))] ∧ H' = H3, ?_, ?_⟩
    · walk_at "rx"
      refine ite2 (fun z => ?_) (fun z => ?_)
      · walk_at "rx"
        refine ⟨_, _, rfl, ?_⟩
        walk_at "rx"
        obtain ⟨e, ee, le⟩ : ∃ e : Nat, (if (way : Int) < (if 1 + (d : Int) - 1 > 1 then 1 + (d : Int) - 1 else 1) then (way : Int) else (if 1 + (d : Int) - 1 > 1 then 1 + (d : Int) - 1 else 1)) = (e : Int) ∧ e ≤ 1 + d := by
          by_cases k : 1 + (d : Int) - 1 > 1
          · rw [if_pos k]
            by_cases y : (way : Int) < 1 + (d : Int) - 1
            · rw [if_pos y]; exact ⟨way, rfl, by omega⟩
            · rw [if_neg y]; exact ⟨d, by omega, by omega⟩
          · rw [if_neg k]
            by_cases y : (way : Int) < 1
            · rw [if_pos y]; exact ⟨way, rfl, by omega⟩
            · rw [if_neg y]; exact ⟨1, rfl, by omega⟩
        rw [ee]
        exact ⟨e, le, rfl, rfl⟩
      · walk_at "rx"
        exact ⟨e0, by omega, rfl, rfl⟩
    · rintro σ H' ⟨e, le, rfl, rfl⟩
      walk_at "rx"
      refine ⟨B, 1 + d - e, by rw [show ((1 + d - e : Nat) : Int) = 1 + (d : Int) - (e : Int) by omega], hB, w3.i1, by omega, fun H4 D xs w4 nD hD lx nd rg => ?_⟩
      walk_at "rx"
      refine ⟨B, 1 + d, D, xs, by rw [show ((1 + d : Nat) : Int) = 1 + (d : Int) by omega], hB, w4.i1, B.nem w03.i1 nD, hD, by omega, by omega, by omega, fun H5 a es w5 ga pm => ?_⟩
      exact q H5 a es ((w03.trans w4).trans w5) ga (img_of (by omega) (by omega) (by omega) rg pm) (full_nd (fun x hx => (rg x hx).1) nd pm)
def sp_law_turned (_K : PySem.W.Frag) : Sp := fun vs H Q _ => ∃ (B : Box) (a : Addr) (es : List Int), vs = [.ref B.b, .ref a] ∧ IsBk B ∧ B.I H ∧ TG H a es ∧ Img es ∧ ∀ H' D (fs : List Int), Wg B H H' → H D = none → H' D = some (.lst (fs.map V.int)) → fs.Perm es → Q (.ref D) H'
set_option maxHeartbeats 4000000 in
theorem ok_law_turned (T : Top K mg) {f : Addr} {fd : FuncData} (D : Def K mg "_law_turned" s_law_turned ["box", "before"] f fd) : FnOk P w K mg base CX0 2 f fd ["box", "before"] (sp_law_turned K) := by
  obtain ⟨f_law_take, fd_law_take, D_law_take⟩ := T.d__law_take
  have G_law_take : FnOk P w K mg base CX0 1 f_law_take fd_law_take ["box", "limit"] (sp_law_take K) := ok_law_take T D_law_take
  refine D.F.ok sc_law_turned (fun vs H Q E h => ?_) (fun cdv A outer s H vs Q E hr h => ?_)
  · obtain ⟨B, a, es, rfl, _⟩ := h
    rfl
  · obtain ⟨B, a, es, rfl, hB, i0, ha, I, q⟩ := h
    have e12 := I.2.1
    have hr1 : -100000 ≤ ((es.length : Nat) : Int) ∧ ((es.length : Nat) : Int) ≤ 100000 := by omega
    refine ⟨_, (pss_cons (ps_set (i := 2) sc_law_turned.nd rfl (.inl rfl) (pe_callTy (r := rLstQ K) call_lstQ (by rfl) T.b_list (by decide +kernel) (pa_cons (pv 1) pa_nil)))
    (pss_cons (ps_setLc (i := 3) (own := [("at", 9)]) (g := gName 9) (tt := _) rfl sc_law_turned.nd rfl rfl (sw_true rfl rfl rfl (by decide +kernel)) (pi_range1 (by rfl) T.b_range (pa_cons (pe_callB (r := rLenQ K) call_lenQ (by rfl) T.b_len PySem.boot_len (pa_cons (pv 1) pa_nil)) pa_nil))
      (blkOk_by (own := [("at", 9)]) (N := ["box", "before", "laid", "free", "turn", "one", "two", "kept", "three", "at"]) (sc := defScope s_law_turned) (by decide +kernel)) (fun _ _ _ _ _ => (pg_name (i := 9) sc_law_turned.nd rfl (.inl rfl))) (fun _ _ _ _ _ => pts_one (pt_cmpR op_ne (pe_ix (r := rIxT K) ix_tup (pv 1) (pv 9) (fun _ _ => rfl)) (pe_un un_neg pe_int) (nomark _)))
      (fun _ _ _ _ _ => (pv 9)))
    (pss_cons (ps_for PassesOwn.never rfl (pi_range1 (by rfl) T.b_range (pa_cons (pe_call G_law_take hr (by rfl) D_law_take.g D_law_take.F.kp D_law_take.b .nil pass0 (pa_cons (pv 0) (pa_cons pe_int pa_nil))) pa_nil)) (pg_name (i := 4) sc_law_turned.nd rfl (.inl rfl)) (pss_one (ps_if (pt_cmpR op_gt (pe_callB (r := rLenQ K) call_lenQ (by rfl) T.b_len PySem.boot_len (pa_cons (pv 3) pa_nil)) pe_int (nomark _)) (pss_cons (ps_set (i := 5) sc_law_turned.nd rfl (.inl rfl) (pe_bm PySem.F.plainAttrs_list PySem.F.slot_list_pop PySem.F.type_list_pop mt_popQ (pv 3) (pa_cons (pe_call G_law_take hr (by rfl) D_law_take.g D_law_take.F.kp D_law_take.b .nil pass0 (pa_cons (pv 0) (pa_cons (pe_callB (r := rLenQ K) call_lenQ (by rfl) T.b_len PySem.boot_len (pa_cons (pv 3) pa_nil)) pa_nil))) pa_nil)))
    (pss_cons (ps_set (i := 6) sc_law_turned.nd rfl (.inl rfl) (pe_bm PySem.F.plainAttrs_list PySem.F.slot_list_pop PySem.F.type_list_pop mt_popQ (pv 3) (pa_cons (pe_call G_law_take hr (by rfl) D_law_take.g D_law_take.F.kp D_law_take.b .nil pass0 (pa_cons (pv 0) (pa_cons (pe_callB (r := rLenQ K) call_lenQ (by rfl) T.b_len PySem.boot_len (pa_cons (pv 3) pa_nil)) pa_nil))) pa_nil)))
    (pss_cons (ps_set (i := 7) sc_law_turned.nd rfl (.inl rfl) (pe_ix (r := rIxL K) ix_list (pv 2) (pv 5) (fun _ _ => rfl)))
    (pss_cons (ps_asg (pe_ix (r := rIxL K) ix_list (pv 2) (pv 6) (fun _ _ => rfl)) (pg_sub (pv 2) (pv 5) set_list))
    (C8.pss_cut (ps_if (PW.pt (pw_and (pt_cmpR (op_neD hr.units) (pv 3) (pe_lst pa_nil) (nomark _)) (pw_and1 (pt_cmpR op_eq (pe_call G_law_take hr (by rfl) D_law_take.g D_law_take.F.kp D_law_take.b .nil pass0 (pa_cons (pv 0) (pa_cons pe_int pa_nil))) pe_int (nomark _))))) (pss_cons (ps_set (i := 8) sc_law_turned.nd rfl (.inl rfl) (pe_bm PySem.F.plainAttrs_list PySem.F.slot_list_pop PySem.F.type_list_pop mt_popQ (pv 3) (pa_cons (pe_call G_law_take hr (by rfl) D_law_take.g D_law_take.F.kp D_law_take.b .nil pass0 (pa_cons (pv 0) (pa_cons (pe_callB (r := rLenQ K) call_lenQ (by rfl) T.b_len PySem.boot_len (pa_cons (pv 3) pa_nil)) pa_nil))) pa_nil)))
    (pss_cons (ps_asg (pe_ix (r := rIxL K) ix_list (pv 2) (pv 8) (fun _ _ => rfl)) (pg_sub (pv 2) (pv 6) set_list))
    (pss_one (ps_set (i := 6) sc_law_turned.nd rfl (.inl rfl) (pv 8))))) pss_nil)
    (pss_one (ps_asg (pv 7) (pg_sub (pv 2) (pv 6) set_list)))))))) pss_nil)))
    (pss_one (ps_ret (pv 2)))))), ?_⟩
    walk_at "rx"
    refine rd_newL fun H1 D S1 nD hD => ?_
    have ha1 := ha.same S1
    have mD : D ∉ B.m := B.nem i0 nD
    walk_at "rx"
    rw [show (((es.length : Nat) : Int)).toNat = es.length by omega]
    refine lc_acc walk_rng (fun i acc => ∃ ps, acc = nvs ps ∧ ps.Nodup ∧ (∀ p ∈ ps, p < i)) ⟨[], rfl, List.nodup_nil, fun p hp => by cases hp⟩ (fun i acc hi e => by
      obtain ⟨ps, rfl, nd, lt⟩ := e
      have := nd_len i ps nd lt
      rw [nvs_len]
      omega) (fun _ _ => trivial) ?_ ?_
    · rintro i x Hx Hy acc Qc R hi Sx ⟨ps, rfl, nd, lt⟩ ⟨rfl, rfl⟩ qc rc
      have hax := ha1.same Sx
      have ai : atI (es.map V.int) (i : Int) = some (.int (es.getD i 0)) := atI_ints (by omega) (by omega)
      walk_at "rx"
      refine ⟨rfl, ?_⟩
      walk_at "rx"
      by_cases z : es.getD i 0 = -1
      · rw [decide_eq_true (show V.int (es.getD i 0) = V.int (-1) from by rw [z])]
        walk_at "rx"
        exact rc _ (Same.refl _) ⟨ps, rfl, nd, fun p hp => by have := lt p hp; omega⟩
      · rw [decide_eq_false (show ¬ V.int (es.getD i 0) = V.int (-1) from fun w => z (V.int.inj w))]
        walk_at "rx"
        refine qc _ _ (Same.refl _) ⟨ps ++ [i], by rw [nvs_app]; rfl, ?_, fun p hp => ?_⟩
        · rw [List.nodup_append]
          exact ⟨nd, by simp, fun a ha b hb e => by have := lt a ha; rw [List.mem_singleton.mp hb] at e; omega⟩
        · rcases List.mem_append.mp hp with y | y
          · have := lt p y; omega
          · rw [List.mem_singleton.mp y]; omega
    rintro H2 F acc S2 nF hF ⟨ps, rfl, nd0, lt0⟩
    have w2 := (Wg.ofSame i0 S1).same S2
    have nF0 := S1.free nF
    have mF : F ∉ B.m := B.nem i0 nF0
    have hD2 := S2 _ _ hD
    have nFD : F ≠ D := fun z => by rw [z, hD] at nF; cases nF
    walk_at "rx"
    refine ⟨B, 7, rfl, hB, w2.i1, by decide, by decide, fun H3 t w3 ht => ?_⟩
    have hr2 : -100000 ≤ (t : Int) ∧ (t : Int) ≤ 100000 := by omega
    have hD3 := w3.lst mD hD2
    have hF3 := w3.lst mF hF
    walk_at "rx"
    rw [show ((t : Int)).toNat = t by omega]
    refine fr_rng0 (fun i σ H' => ∃ (fr : List Nat) (ls : List Int) (y4 y5 y6 y7 y8 y9 : Option V), σ = [some (.ref B.b), some (.ref a), some (.ref D), some (.ref F), y4, y5, y6, y7, y8, y9] ∧ Wg B H H' ∧ H' F = some (.lst (nvs fr)) ∧ H' D = some (.lst (ls.map V.int)) ∧ fr.Nodup ∧ (∀ f ∈ fr, f < es.length) ∧ ls.Perm es)
      ⟨ps, es, none, none, none, none, none, none, rfl, w2.trans w3, hF3, hD3, nd0, lt0, List.Perm.refl _⟩ ?_ ?_
    · rintro i σ Ha hi ⟨fr, ls, y4, y5, y6, y7, y8, y9, rfl, wa, hFa, hDa, nd, lt, pm⟩
      have ll := pm.length_eq
      have lfr := nd_len es.length fr nd lt
      have mono : ∀ f, ∀ f2 ∈ fr.eraseIdx f, f2 < es.length := fun f f2 h => lt f2 (erase_mem h)
      walk_at "rx"
      by_cases z : 1 < fr.length
      · rw [decide_eq_true (show (1 : Int) < (((nvs fr).length : Nat) : Int) by rw [nvs_len]; omega)]
        walk_at "rx"
        refine ⟨B, ((nvs fr).length : Nat), rfl, hB, wa.i1, by rw [nvs_len]; omega, by rw [nvs_len]; omega, fun Hb d1 wb hd1 => ?_⟩
        rw [nvs_len] at hd1
        have l1 : d1 < fr.length := by omega
        have e1 : fr[d1]? = some fr[d1] := List.getElem?_eq_getElem l1
        have hFb := wb.lst mF hFa
        have hDb := wb.lst mD hDa
        walk_at "rx"
        refine rd_popQ hFb (nvs_get e1) (by omega) ?_
        have hDc : (upd Hb F (.lst ((nvs fr).eraseIdx d1))) D = some (.lst (ls.map V.int)) := by rw [upd_ne nFD.symm]; exact hDb
        have hFc : (upd Hb F (.lst ((nvs fr).eraseIdx d1))) F = some (.lst (nvs (fr.eraseIdx d1))) := by rw [upd_same, nvs_eraseIdx]
        have wc : Wg B H (upd Hb F (.lst ((nvs fr).eraseIdx d1))) := (wa.trans wb).mut nF0
        generalize upd Hb F (.lst ((nvs fr).eraseIdx d1)) = Hc at *
        have i1 := lt _ (List.getElem_mem l1)
        have ne1 := erase_ne nd e1
        have nd1 := erase_nd nd d1
        have lt1 := mono d1
        have lf1 : (fr.eraseIdx d1).length = fr.length - 1 := List.length_eraseIdx_of_lt l1
        generalize fr[d1] = one at *
        generalize fr.eraseIdx d1 = fr1 at *
        walk_at "rx"
        refine ⟨B, ((nvs fr1).length : Nat), rfl, hB, wc.i1, by rw [nvs_len]; omega, by rw [nvs_len]; omega, fun Hd d2 wd hd2 => ?_⟩
        rw [nvs_len] at hd2
        have l2 : d2 < fr1.length := by omega
        have e2 : fr1[d2]? = some fr1[d2] := List.getElem?_eq_getElem l2
        have hFd := wd.lst mF hFc
        have hDd := wd.lst mD hDc
        walk_at "rx"
        refine rd_popQ hFd (nvs_get e2) (by omega) ?_
        have hDe : (upd Hd F (.lst ((nvs fr1).eraseIdx d2))) D = some (.lst (ls.map V.int)) := by rw [upd_ne nFD.symm]; exact hDd
        have hFe : (upd Hd F (.lst ((nvs fr1).eraseIdx d2))) F = some (.lst (nvs (fr1.eraseIdx d2))) := by rw [upd_same, nvs_eraseIdx]
        have we : Wg B H (upd Hd F (.lst ((nvs fr1).eraseIdx d2))) := (wc.trans wd).mut nF0
        generalize upd Hd F (.lst ((nvs fr1).eraseIdx d2)) = He at *
        have m2 := List.getElem_mem l2
        have i2 := lt1 _ m2
        have n12 : one ≠ fr1[d2] := fun e => ne1 (by rw [e]; exact m2)
        have ne2 := erase_ne nd1 e2
        have nd2 := erase_nd nd1 d2
        have lt2 : ∀ f ∈ fr1.eraseIdx d2, f < es.length ∧ f ≠ one := fun f h => ⟨lt1 f (erase_mem h), fun e => ne1 (by rw [← e]; exact erase_mem h)⟩
        have lf2 : (fr1.eraseIdx d2).length = fr1.length - 1 := List.length_eraseIdx_of_lt l2
        generalize fr1[d2] = two at *
        generalize fr1.eraseIdx d2 = fr2 at *
        have a1 : atI (ls.map V.int) (one : Int) = some (.int (ls.getD one 0)) := atI_ints (by omega) (by omega)
        have a2 : atI (ls.map V.int) (two : Int) = some (.int (ls.getD two 0)) := atI_ints (by omega) (by omega)
        have x1 : ixN (ls.map V.int).length ((one : Nat) : Int) = some one := ixN_of rfl (by rw [List.length_map]; omega)
        walk_at "rx"
        have hDf : (upd He D (.lst ((ls.map V.int).set one (.int (ls.getD two 0))))) D = some (.lst ((ls.set one (ls.getD two 0)).map V.int)) := by rw [upd_same, List.map_set]
        have hFf : (upd He D (.lst ((ls.map V.int).set one (.int (ls.getD two 0))))) F = some (.lst (nvs fr2)) := by rw [upd_ne nFD]; exact hFe
        have wf : Wg B H (upd He D (.lst ((ls.map V.int).set one (.int (ls.getD two 0))))) := we.mut nD
        generalize upd He D (.lst ((ls.map V.int).set one (.int (ls.getD two 0)))) = Hf at *
        have x2 : ixN ((ls.set one (ls.getD two 0)).map V.int).length ((two : Nat) : Int) = some two := ixN_of rfl (by rw [List.length_map, List.length_set]; omega)
        refine ⟨fun σ' H' => ∃ (fr3 : List Nat) (ls3 : List Int) (tw : Nat) (y8 : Option V), σ' = [some (.ref B.b), some (.ref a), some (.ref D), some (.ref F), some (.int (i : Int)), some (.int (one : Int)), some (.int (tw : Int)), some (.int (ls.getD one 0)), y8, y9] ∧ Wg B H H' ∧ H' F = some (.lst (nvs fr3)) ∧ H' D = some (.lst (ls3.map V.int)) ∧ fr3.Nodup ∧ (∀ f ∈ fr3, f < es.length) ∧ tw < ls3.length ∧ (ls3.set tw (ls.getD one 0)).Perm es, ?_, ?_⟩
        · have two_done : (ls.set one (ls.getD two 0)).length = ls.length := List.length_set ..
          have pm2 := (set_set_perm (l := ls) (i := one) (j := two) (by omega) (by omega)).trans pm
          walk_at "rx"
          refine rd_newQ (by simp) fun Hg O Sg nO hO => ?_
          have hFg := Sg _ _ hFf
          have hDg := Sg _ _ hDf
          have wg := wf.same Sg
          have hFg2 : Hg F = some (.lst ((niz fr2).map V.int)) := hFg
          refine rd_neN hFg2 hO ?_
          cases fr2 with
          | nil =>
            walk_at "rx"
            show if false = true then _ else _
            walk_at "rx"
            exact ⟨[], _, two, _, rfl, wg, hFg, hDg, List.nodup_nil, fun f hf => (by cases hf), by omega, pm2⟩
          | cons g0 gr =>
            walk_at "rx"
            show if true = true then _ else _
            walk_at "rx"
            refine ⟨B, 4, rfl, hB, wg.i1, by decide, by decide, fun Hh d3 wh hd3 => ?_⟩
            have hFh := wh.lst mF hFg
            have hDh := wh.lst mD hDg
            walk_at "rx"
            refine ite2 (fun z3 => ?_) (fun z3 => ?_)
            · walk_at "rx"
              refine ⟨B, ((nvs (g0 :: gr)).length : Nat), rfl, hB, wh.i1, by rw [nvs_len, List.length_cons]; omega, by rw [nvs_len]; omega, fun Hi d4 wi hd4 => ?_⟩
              rw [nvs_len] at hd4
              have l4 : d4 < (g0 :: gr).length := by omega
              have e4 : (g0 :: gr)[d4]? = some (g0 :: gr)[d4] := List.getElem?_eq_getElem l4
              have hFi := wi.lst mF hFh
              have hDi := wi.lst mD hDh
              walk_at "rx"
              refine rd_popQ hFi (nvs_get e4) (by omega) ?_
              have hDj : (upd Hi F (.lst ((nvs (g0 :: gr)).eraseIdx d4))) D = some (.lst ((ls.set one (ls.getD two 0)).map V.int)) := by rw [upd_ne nFD.symm]; exact hDi
              have hFj : (upd Hi F (.lst ((nvs (g0 :: gr)).eraseIdx d4))) F = some (.lst (nvs ((g0 :: gr).eraseIdx d4))) := by rw [upd_same, nvs_eraseIdx]
              have wj : Wg B H (upd Hi F (.lst ((nvs (g0 :: gr)).eraseIdx d4))) := ((wg.trans wh).trans wi).mut nF0
              generalize upd Hi F (.lst ((nvs (g0 :: gr)).eraseIdx d4)) = Hj at *
              have m4 := List.getElem_mem l4
              have i4 := lt2 _ m4
              have n4 : two ≠ (g0 :: gr)[d4] := fun e => ne2 (by rw [e]; exact m4)
              have nd4 := erase_nd nd2 d4
              have lt4 : ∀ f ∈ (g0 :: gr).eraseIdx d4, f < es.length := fun f h => (lt2 f (erase_mem h)).1
              generalize (g0 :: gr)[d4] = thr at *
              generalize (g0 :: gr).eraseIdx d4 = fr4 at *
              have pm4 := (set3_perm (l := ls) (i := one) (j := two) (k := thr) (by omega) (by omega) (by omega) n12 i4.2.symm n4).trans pm
              have a4 : atI ((ls.set one (ls.getD two 0)).map V.int) (thr : Int) = some (.int (ls.getD thr 0)) := by
                rw [atI_ints (by omega) (by rw [List.length_set]; omega), Int.toNat_natCast, List.getD_eq_getElem?_getD, List.getElem?_set_ne i4.2.symm, ← List.getD_eq_getElem?_getD]
              walk_at "rx"
              exact ⟨fr4, _, thr, _, rfl, wj.mut nD, by rw [upd_ne nFD]; exact hFj, by rw [upd_same, ← List.map_set], nd4, lt4, by rw [List.length_set, List.length_set]; omega, pm4⟩
            · walk_at "rx"
              exact ⟨g0 :: gr, _, two, _, rfl, wg.trans wh, hFh, hDh, nd2, fun f hf => (lt2 f hf).1, by omega, pm2⟩
        · rintro σ' Hg ⟨fr3, ls3, tw, y8', rfl, wg, hFg, hDg, nd3, lt3, ltw, pm3⟩
          have x3 : ixN (ls3.map V.int).length ((tw : Nat) : Int) = some tw := ixN_of rfl (by rw [List.length_map]; omega)
          walk_at "rx"
          exact ⟨fr3, ls3.set tw (ls.getD one 0), _, _, _, _, _, _, rfl, wg.mut nD, by rw [upd_ne nFD]; exact hFg, by rw [upd_same, List.map_set], nd3, lt3, pm3⟩
      · rw [decide_eq_false (show ¬ (1 : Int) < (((nvs fr).length : Nat) : Int) by rw [nvs_len]; omega)]
        walk_at "rx"
        exact ⟨fr, ls, _, _, _, _, _, _, rfl, wa, hFa, hDa, nd, lt, pm⟩
    · rintro σ Ha ⟨fr, ls, y4, y5, y6, y7, y8, y9, rfl, wa, hFa, hDa, nd, lt, pm⟩
      walk_at "rx"
      exact q Ha D ls wa nD hDa pm
def sp_law_sign (_K : PySem.W.Frag) : Sp := fun vs H Q _ => ∃ (e : Int), vs = [.int e] ∧ -1 ≤ e ∧ e ≤ 999 ∧ Q (.str (sgS e)) H
set_option maxHeartbeats 4000000 in
theorem ok_law_sign (T : Top K mg) {f : Addr} {fd : FuncData} (D : Def K mg "_law_sign" s_law_sign ["entry"] f fd) : FnOk P w K mg base CX0 1 f fd ["entry"] (sp_law_sign K) := by
  refine D.F.ok sc_law_sign (fun vs H Q E h => ?_) (fun cdv A outer s H vs Q E hr h => ?_)
  · obtain ⟨e, rfl, _⟩ := h
    rfl
  · obtain ⟨e, rfl, e0, e1, q⟩ := h
    unfold sgS at q
    refine ⟨_, (pss_cons (ps_if (pt_cmpR op_eq (pv 0) (pe_un un_neg pe_int) (nomark _)) (pss_one (ps_ret pe_str)) pss_nil)
    (pss_one (ps_ret (pe_callTy call_strQ (by rfl) T.b_str (by decide +kernel) (pa_cons (pe_op op_fdivN (pv 0) pe_int) pa_nil))))), ?_⟩
    walk_at "rx"
    refine ite2 (fun z => ?_) (fun z => ?_)
    · walk_at "rx"
      rw [if_pos (V.int.inj (of_decide_eq_true z))] at q
      exact q
    · walk_at "rx"
      have ne : e ≠ -1 := fun k => z (by rw [k]; rfl)
      obtain ⟨k0, k1⟩ := kind_small (e := e) (by omega) e1
      refine rd_strQ k0 k1 ?_
      rw [if_neg ne] at q
      exact q
def sp_law_partners (_K : PySem.W.Frag) : Sp := fun vs H Q _ => ∃ (L : Addr) (ls : List Int) (one way : Nat), vs = [.ref L, .int (one : Int), .int (way : Int)] ∧ H L = some (.lst (ls.map V.int)) ∧ ls.length ≤ 12 ∧ (∀ x ∈ ls, -1 ≤ x ∧ x ≤ 999) ∧ one < ls.length ∧ ∀ H' D, Same H H' → H D = none → H' D = some (.lst (nvs (partL ls one way))) → Q (.ref D) H'
set_option maxHeartbeats 4000000 in
theorem ok_law_partners (T : Top K mg) {f : Addr} {fd : FuncData} (D : Def K mg "_law_partners" s_law_partners ["laid", "one", "way"] f fd) : FnOk P w K mg base CX0 2 f fd ["laid", "one", "way"] (sp_law_partners K) := by
  obtain ⟨f_law_sign, fd_law_sign, D_law_sign⟩ := T.d__law_sign
  have G_law_sign : FnOk P w K mg base CX0 1 f_law_sign fd_law_sign ["entry"] (sp_law_sign K) := ok_law_sign T D_law_sign
  refine D.F.ok sc_law_partners (fun vs H Q E h => ?_) (fun cdv A outer s H vs Q E hr h => ?_)
  · obtain ⟨L, ls, one, way, rfl, _⟩ := h
    rfl
  · obtain ⟨L, ls, one, way, rfl, hL, l12, rg, h1, q⟩ := h
    have hr1 : -100000 ≤ (((ls.map V.int).length : Nat) : Int) ∧ (((ls.map V.int).length : Nat) : Int) ≤ 100000 := by rw [List.length_map]; omega
    have a1 : atI (ls.map V.int) (one : Int) = some (.int (ls.getD one 0)) := atI_ints (by omega) (by omega)
    have r1 := rg _ (mem_at h1)
    have lo := oth_len ls one ls.length
    refine ⟨_, (pss_cons (ps_setLc (i := 3) (own := [("at", 4)]) (g := gName 4) (tt := _) rfl sc_law_partners.nd rfl rfl (sw_true rfl rfl rfl (by decide +kernel)) (pi_range1 (by rfl) T.b_range (pa_cons (pe_callB (r := rLenQ K) call_lenQ (by rfl) T.b_len PySem.boot_len (pa_cons (pv 0) pa_nil)) pa_nil))
      (blkOk_by (own := [("at", 4)]) (N := ["laid", "one", "way", "others", "at"]) (sc := defScope s_law_partners) (by decide +kernel)) (fun _ _ _ _ _ => (pg_name (i := 4) sc_law_partners.nd rfl (.inl rfl))) (fun _ _ _ _ _ => pts_one (pt_cmpR op_ne (pe_ix (r := rIxL K) ix_list (pv 0) (pv 4) (fun _ _ => rfl)) (pe_ix (r := rIxL K) ix_list (pv 0) (pv 1) (fun _ _ => rfl)) (nomark _)))
      (fun _ _ _ _ _ => (pv 4)))
    (pss_cons (ps_if (pt_cmpR op_eq (pv 2) pe_int (nomark _)) (pss_one (ps_ret (pv 3))) pss_nil)
    (pss_cons (ps_if (pt_cmpR op_eq (pv 2) pe_int (nomark _)) (pss_one (ps_ret (pe_lc (own := [("at", 4)]) (g := gName 4) (tt := _) rfl sc_law_partners.nd (pi_list (pv 3))
      (blkOk_by (own := [("at", 4)]) (N := ["laid", "one", "way", "others", "at"]) (sc := defScope s_law_partners) (by decide +kernel)) (fun _ _ _ _ _ => (pg_name (i := 4) sc_law_partners.nd rfl (.inl rfl))) (fun _ _ _ _ _ => pts_one (PW.pt (pw_and (pt_cmpR op_ne (pe_ix (r := rIxL K) ix_list (pv 0) (pv 4) (fun _ _ => rfl)) (pe_un un_neg pe_int) (nomark _)) (pw_and1 (pt_cmpR op_ne (pe_ix (r := rIxL K) ix_list (pv 0) (pv 1) (fun _ _ => rfl)) (pe_un un_neg pe_int) (nomark _))))))
      (fun _ _ _ _ _ => (pv 4))))) pss_nil)
    (pss_one (ps_ret (pe_lc (own := [("at", 4)]) (g := gName 4) (tt := _) rfl sc_law_partners.nd (pi_list (pv 3))
      (blkOk_by (own := [("at", 4)]) (N := ["laid", "one", "way", "others", "at"]) (sc := defScope s_law_partners) (by decide +kernel)) (fun _ _ _ _ _ => (pg_name (i := 4) sc_law_partners.nd rfl (.inl rfl))) (fun _ _ _ _ _ => pts_one (pt_cmpR op_eq (pe_call G_law_sign hr (by rfl) D_law_sign.g D_law_sign.F.kp D_law_sign.b .nil pass0 (pa_cons (pe_ix (r := rIxL K) ix_list (pv 0) (pv 4) (fun _ _ => rfl)) pa_nil)) (pe_call G_law_sign hr (by rfl) D_law_sign.g D_law_sign.F.kp D_law_sign.b .nil pass0 (pa_cons (pe_ix (r := rIxL K) ix_list (pv 0) (pv 1) (fun _ _ => rfl)) pa_nil)) (nomark _)))
      (fun _ _ _ _ _ => (pv 4)))))))), ?_⟩
    walk_at "rx"
    rw [show ((((ls.map V.int).length : Nat) : Int)).toNat = ls.length by rw [List.length_map]; omega]
    refine lc_acc walk_rng (fun i acc => acc = nvs (othL ls one i)) rfl (fun i acc hi e => by have := oth_len ls one i; rw [e, nvs_len]; omega) (fun _ _ => trivial) ?_ ?_
    · rintro i x Hx Hy acc Qc R hi Sx e ⟨rfl, rfl⟩ qc rc
      have hLx := Sx _ _ hL
      have ai : atI (ls.map V.int) (i : Int) = some (.int (ls.getD i 0)) := atI_ints (by omega) (by omega)
      have nx : othL ls one (i + 1) = othL ls one i ++ if (!decide (V.int (ls.getD i 0) = V.int (ls.getD one 0))) = true then [i] else [] := fr_next (p := fun j => !decide (V.int (ls.getD j 0) = V.int (ls.getD one 0))) i
      walk_at "rx"
      refine ⟨rfl, ?_⟩
      walk_at "rx"
      refine ite2 (fun z => ?_) (fun z => ?_)
      · walk_at "rx"
        refine qc _ _ (Same.refl _) ?_
        rw [nx, if_pos z, nvs_app, e]
        rfl
      · refine rc _ (Same.refl _) ?_
        rw [nx, if_neg z, List.append_nil]
        exact e
    intro H1 O acc S1 nO hO e
    subst e
    have hL1 := S1 _ _ hL
    walk_at "rx"
    unfold partL at q
    refine ite2 (fun z => ?_) (fun z => ?_)
    · walk_at "rx"
      rw [if_pos (by have := V.int.inj (of_decide_eq_true z); omega)] at q
      exact q H1 O S1 nO hO
    rw [if_neg (fun k : way = 1 => z (by rw [k]; rfl))] at q
    walk_at "rx"
    refine ite2 (fun z2 => ?_) (fun z2 => ?_)
    · rw [if_pos (by have := V.int.inj (of_decide_eq_true z2); omega)] at q
      walk_at "rx"
      refine lc_acc (walk_list (xs := nvs (othL ls one ls.length))) (fun i acc => acc = nvs (((othL ls one ls.length).take i).filter (p2L ls one))) rfl (fun i acc hi e => by
        have := List.length_filter_le (p2L ls one) ((othL ls one ls.length).take i)
        rw [List.length_take] at this
        rw [e, nvs_len]
        omega) (fun H' S => SqL.of (S _ _ hO)) ?_ ?_
      · rintro i x Hx Hy acc Qc R hi Sx e ⟨rfl, ex⟩ qc rc
        rw [nvs_len] at hi
        rw [nvs_get (List.getElem?_eq_getElem hi)] at ex
        cases ex
        have hLx := Sx _ _ hL1
        have pl := oth_lt (List.getElem_mem hi)
        have ai : atI (ls.map V.int) (((othL ls one ls.length)[i] : Nat) : Int) = some (.int (ls.getD (othL ls one ls.length)[i] 0)) := atI_ints (by omega) (by omega)
        have nx := fl_next (p := p2L ls one) hi
        walk_at "rx"
        refine ⟨rfl, ?_⟩
        walk_at "rx"
        refine ite2 (fun y => ?_) (fun y => ?_)
        · walk_at "rx"
          refine ite2 (fun y2 => ?_) (fun y2 => ?_)
          · walk_at "rx"
            refine qc _ _ (Same.refl _) ?_
            rw [nx, if_pos (by unfold p2L; rw [y, y2]; rfl), nvs_app, e]
            rfl
          · refine rc _ (Same.refl _) ?_
            rw [nx, if_neg (by unfold p2L; rw [y, Bool.true_and]; exact y2), List.append_nil]
            exact e
        · refine rc _ (Same.refl _) ?_
          rw [nx, if_neg (by unfold p2L; rw [Bool.and_eq_true]; exact fun k => y k.1), List.append_nil]
          exact e
      · intro H2 D acc S2 nD hD e
        rw [e, nvs_len, List.take_length] at hD
        walk_at "rx"
        exact q H2 D (S1.trans S2) (S1.free nD) hD
    · rw [if_neg (fun k : way = 2 => z2 (by rw [k]; rfl))] at q
      walk_at "rx"
      refine lc_acc (walk_list (xs := nvs (othL ls one ls.length))) (fun i acc => acc = nvs (((othL ls one ls.length).take i).filter (p3L ls one))) rfl (fun i acc hi e => by
        have := List.length_filter_le (p3L ls one) ((othL ls one ls.length).take i)
        rw [List.length_take] at this
        rw [e, nvs_len]
        omega) (fun H' S => SqL.of (S _ _ hO)) ?_ ?_
      · rintro i x Hx Hy acc Qc R hi Sx e ⟨rfl, ex⟩ qc rc
        rw [nvs_len] at hi
        rw [nvs_get (List.getElem?_eq_getElem hi)] at ex
        cases ex
        have hLx := Sx _ _ hL1
        have pl := oth_lt (List.getElem_mem hi)
        have ai : atI (ls.map V.int) (((othL ls one ls.length)[i] : Nat) : Int) = some (.int (ls.getD (othL ls one ls.length)[i] 0)) := atI_ints (by omega) (by omega)
        have ri := rg _ (mem_at pl)
        have nx := fl_next (p := p3L ls one) hi
        walk_at "rx"
        refine ⟨rfl, ?_⟩
        walk_at "rx"
        refine ⟨_, rfl, ri.1, ri.2, ?_⟩
        walk_at "rx"
        refine ⟨_, rfl, r1.1, r1.2, ?_⟩
        walk_at "rx"
        refine ite2 (fun y => ?_) (fun y => ?_)
        · walk_at "rx"
          refine qc _ _ (Same.refl _) ?_
          rw [nx, if_pos (show p3L ls one _ = true from y), nvs_app, e]
          rfl
        · refine rc _ (Same.refl _) ?_
          rw [nx, if_neg (show ¬ p3L ls one _ = true from y), List.append_nil]
          exact e
      · intro H2 D acc S2 nD hD e
        rw [e, nvs_len, List.take_length] at hD
        walk_at "rx"
        exact q H2 D (S1.trans S2) (S1.free nD) hD
def sp_law_after (_K : PySem.W.Frag) : Sp := fun vs H Q _ => ∃ (B : Box) (a : Addr) (es : List Int), vs = [.ref B.b, .ref a] ∧ IsBk B ∧ B.I H ∧ TG H a es ∧ Img es ∧ (full es).Nodup ∧ ∀ H' b fs, Wg B H H' → GT H' b fs → Ren es fs → Q (.ref b) H'
set_option maxHeartbeats 4000000 in
theorem ok_law_after (T : Top K mg) {f : Addr} {fd : FuncData} (D : Def K mg "_law_after" s_law_after ["box", "before"] f fd) : FnOk P w K mg base CX0 3 f fd ["box", "before"] (sp_law_after K) := by
  obtain ⟨f_law_take, fd_law_take, D_law_take⟩ := T.d__law_take
  have G_law_take : FnOk P w K mg base CX0 1 f_law_take fd_law_take ["box", "limit"] (sp_law_take K) := ok_law_take T D_law_take
  obtain ⟨f_law_laid, fd_law_laid, D_law_laid⟩ := T.d__law_laid
  have G_law_laid : FnOk P w K mg base CX0 2 f_law_laid fd_law_laid ["box", "blocks", "values"] (sp_law_laid K) := ok_law_laid T D_law_laid
  obtain ⟨f_law_turned, fd_law_turned, D_law_turned⟩ := T.d__law_turned
  have G_law_turned : FnOk P w K mg base CX0 2 f_law_turned fd_law_turned ["box", "before"] (sp_law_turned K) := ok_law_turned T D_law_turned
  obtain ⟨f_law_partners, fd_law_partners, D_law_partners⟩ := T.d__law_partners
  have G_law_partners : FnOk P w K mg base CX0 2 f_law_partners fd_law_partners ["laid", "one", "way"] (sp_law_partners K) := ok_law_partners T D_law_partners
  refine D.F.ok sc_law_after (fun vs H Q E h => ?_) (fun cdv A outer s H vs Q E hr h => ?_)
  · obtain ⟨B, a, es, rfl, _⟩ := h
    rfl
  · obtain ⟨B, a, es, rfl, hB, i0, ha, I, nd, q⟩ := h
    have e12 := I.2.1
    have lfu : (full es).length ≤ es.length := List.length_filter_le _ _
    refine ⟨_, (pss_cons (ps_set (i := 2) sc_law_after.nd rfl (.inr rfl) (pe_call G_law_take (hr.mono (by decide)) (by rfl) D_law_take.g D_law_take.F.kp D_law_take.b .nil pass0 (pa_cons (pv 0) (pa_cons pe_int pa_nil))))
    (pss_cons (ps_if (pt_cmpR op_gt (pv 2) pe_int (nomark _)) (pss_one (ps_ret (pe_call G_law_laid hr (by rfl) D_law_laid.g D_law_laid.F.kp D_law_laid.b .nil pass0 (pa_cons (pv 0) (pa_cons (pe_callB (r := rLenQ K) call_lenQ (by rfl) T.b_len PySem.boot_len (pa_cons (pv 1) pa_nil)) (pa_cons (pe_lc (own := [("value", 12)]) (g := gName 12) (tt := _) rfl sc_law_after.nd (pi_tup (pv 1))
      (blkOk_by (own := [("value", 12)]) (N := ["box", "before", "way", "laid", "many", "turn", "ones", "one", "fit", "two", "kept", "at", "value"]) (sc := defScope s_law_after) (by decide +kernel)) (fun _ _ _ _ _ => (pg_name (i := 12) sc_law_after.nd rfl (.inl rfl))) (fun _ _ _ _ _ => pts_one (pt_cmpR op_ne (pv 12) (pe_un un_neg pe_int) (nomark _)))
      (fun _ _ _ _ _ => (pv 12))) pa_nil)))))) pss_nil)
    (pss_cons (ps_set (i := 3) sc_law_after.nd rfl (.inr rfl) (pe_callTy (r := rLstQ K) call_lstQ (by rfl) T.b_list (by decide +kernel) (pa_cons (pv 1) pa_nil)))
    (pss_cons (ps_set (i := 4) sc_law_after.nd rfl (.inl rfl) (pe_call G_law_take (hr.mono (by decide)) (by rfl) D_law_take.g D_law_take.F.kp D_law_take.b .nil pass0 (pa_cons (pv 0) (pa_cons pe_int pa_nil))))
    (C8.pss_cut (ps_if (pt_cmpR op_gt (pv 2) pe_int (nomark _)) (pss_cons (ps_set (i := 3) sc_law_after.nd rfl (.inr rfl) (pe_call G_law_turned hr (by rfl) D_law_turned.g D_law_turned.F.kp D_law_turned.b .nil pass0 (pa_cons (pv 0) (pa_cons (pv 1) pa_nil))))
    (pss_one (ps_set (i := 4) sc_law_after.nd rfl (.inl rfl) pe_int))) pss_nil)
    (C8.pss_cut (ps_if (PW.pt (pw_or (pt_cmpR op_eq (pv 2) pe_int (nomark _)) (pw_or1 (pt_cmpR op_eq (pv 2) pe_int (nomark _))))) (pss_cons (ps_set (i := 2) sc_law_after.nd rfl (.inr rfl) pe_int)
    (pss_one (ps_set (i := 4) sc_law_after.nd rfl (.inl rfl) pe_int))) pss_nil)
    (pss_cons (ps_for PassesOwn.never rfl (pi_range1 (by rfl) T.b_range (pa_cons (pv 4) pa_nil)) (pg_name (i := 5) sc_law_after.nd rfl (.inl rfl)) (pss_cons (ps_setLc (i := 6) (own := [("at", 11)]) (g := gName 11) (tt := _) rfl sc_law_after.nd rfl rfl (sw_true rfl rfl rfl (by decide +kernel)) (pi_range1 (by rfl) T.b_range (pa_cons (pe_callB (r := rLenQ K) call_lenQ (by rfl) T.b_len PySem.boot_len (pa_cons (pv 3) pa_nil)) pa_nil))
      (blkOk_by (own := [("at", 11)]) (N := ["box", "before", "way", "laid", "many", "turn", "ones", "one", "fit", "two", "kept", "at", "value"]) (sc := defScope s_law_after) (by decide +kernel)) (fun _ _ _ _ _ => (pg_name (i := 11) sc_law_after.nd rfl (.inl rfl))) (fun _ _ _ _ _ => pts_one (pt_cmpR (r := rNeD K) (op_neD hr.units) (pe_call G_law_partners hr (by rfl) D_law_partners.g D_law_partners.F.kp D_law_partners.b .nil pass0 (pa_cons (pv 3) (pa_cons (pv 11) (pa_cons (pv 2) pa_nil)))) (pe_lst pa_nil) (nomark _)))
      (fun _ _ _ _ _ => (pv 11)))
    (pss_one (ps_if (pt_cmpR (op_neD hr.units) (pv 6) (pe_lst pa_nil) (nomark _)) (pss_cons (ps_set (i := 7) sc_law_after.nd rfl (.inl rfl) (pe_ix (r := rIxL K) ix_list (pv 6) (pe_call G_law_take (hr.mono (by decide)) (by rfl) D_law_take.g D_law_take.F.kp D_law_take.b .nil pass0 (pa_cons (pv 0) (pa_cons (pe_callB (r := rLenQ K) call_lenQ (by rfl) T.b_len PySem.boot_len (pa_cons (pv 6) pa_nil)) pa_nil))) (fun _ _ => rfl)))
    (pss_cons (ps_set (i := 8) sc_law_after.nd rfl (.inl rfl) (pe_call G_law_partners hr (by rfl) D_law_partners.g D_law_partners.F.kp D_law_partners.b .nil pass0 (pa_cons (pv 3) (pa_cons (pv 7) (pa_cons (pv 2) pa_nil)))))
    (pss_cons (ps_set (i := 9) sc_law_after.nd rfl (.inl rfl) (pe_ix (r := rIxL K) ix_list (pv 8) (pe_call G_law_take (hr.mono (by decide)) (by rfl) D_law_take.g D_law_take.F.kp D_law_take.b .nil pass0 (pa_cons (pv 0) (pa_cons (pe_callB (r := rLenQ K) call_lenQ (by rfl) T.b_len PySem.boot_len (pa_cons (pv 8) pa_nil)) pa_nil))) (fun _ _ => rfl)))
    (pss_cons (ps_set (i := 10) sc_law_after.nd rfl (.inl rfl) (pe_ix (r := rIxL K) ix_list (pv 3) (pv 7) (fun _ _ => rfl)))
    (pss_cons (ps_asg (pe_ix (r := rIxL K) ix_list (pv 3) (pv 9) (fun _ _ => rfl)) (pg_sub (pv 3) (pv 7) set_list))
    (pss_one (ps_asg (pv 10) (pg_sub (pv 3) (pv 9) set_list)))))))) pss_nil))))
    (pss_one (ps_ret (pe_callTy (r := rTupF K) call_tupF (by rfl) T.b_tuple (by decide +kernel) (pa_cons (pv 3) pa_nil))))))))))), ?_⟩
    walk_at "rx"
    refine ⟨B, 8, rfl, hB, i0, by decide, by decide, fun H1 way w1 hw => ?_⟩
    have ha1 := ha.wg w1
    walk_at "rx"
    refine ite2 (fun z => ?_) (fun z => ?_)
    · walk_at "rx"
      refine lc_acc (walk_tup (xs := es.map V.int)) (fun i acc => acc = (full (es.take i)).map V.int) rfl (fun i acc hi e => by
        rw [e, List.length_map]
        have := List.length_filter_le (fun x => !decide (x = -1)) (es.take i)
        unfold full
        rw [List.length_take] at this
        omega) (fun H' S => (ha1.same S).sq) ?_ ?_
      · rintro i x Hx Hy acc Qc R hi Sx e ⟨rfl, ex⟩ qc rc
        have hi2 : i < es.length := by rw [List.length_map] at hi; exact hi
        rw [List.getElem?_map, List.getElem?_eq_getElem hi2] at ex
        cases ex
        have nx : full (es.take (i + 1)) = full (es.take i) ++ (if es[i] = -1 then [] else [es[i]]) := by
          unfold full
          rw [take_next hi2, List.filter_append]
          congr 1
          by_cases z : es[i] = -1
          · rw [if_pos z, List.filter_cons_of_neg (by simpa using z)]; rfl
          · rw [if_neg z, List.filter_cons_of_pos (by simpa using z)]; rfl
        walk_at "rx"
        refine ⟨rfl, ?_⟩
        walk_at "rx"
        by_cases z : es[i] = -1
        · rw [decide_eq_true (show V.int es[i] = V.int (-1) from by rw [z])]
          walk_at "rx"
          refine rc _ (Same.refl _) ?_
          rw [nx, if_pos z, List.append_nil]
          exact e
        · rw [decide_eq_false (show ¬ V.int es[i] = V.int (-1) from fun w => z (V.int.inj w))]
          walk_at "rx"
          refine qc _ _ (Same.refl _) ?_
          rw [nx, if_neg z, List.map_append, e]
          rfl
      · intro H2 D acc S2 nD hD e
        rw [e, List.length_map, List.take_length] at hD
        walk_at "rx"
        refine ⟨B, es.length, D, full es, rfl, hB, (w1.same S2).i1, B.nem w1.i1 nD, hD, lfu, I.1, e12, fun H3 b fs w3 gb pm => ?_⟩
        exact q H3 b fs ((w1.same S2).trans w3) gb ⟨(pm.trans (full_back es)).symm, nd⟩
    walk_at "rx"
    refine rd_newL fun H2 D S2 nD hD => ?_
    have w2 := w1.same S2
    have mD : D ∉ B.m := B.nem w1.i1 nD
    have nD0 := w1.free nD
    have ha2 := ha1.same S2
    walk_at "rx"
    refine ⟨B, 7, rfl, hB, w2.i1, by decide, by decide, fun H3 many w3 hm => ?_⟩
    have hD3 := w3.lst mD hD
    have ha3 := ha2.wg w3
    walk_at "rx"
    refine ⟨fun σ H' => ∃ (wy mn : Nat) (L : Addr) (ls : List Int), σ = [some (.ref B.b), some (.ref a), some (.int (wy : Int)), some (.ref L), some (.int (mn : Int)), none, none, none, none, none, none, none, none] ∧ mn ≤ 7 ∧ Wg B H H' ∧ H L = none ∧ H' L = some (.lst (ls.map V.int)) ∧ ls.Perm es, ?_, ?_⟩
    · walk_at "rx"
      refine ite2 (fun z => ?_) (fun z => ?_)
      · walk_at "rx"
        refine ⟨B, a, es, rfl, hB, w3.i1, ha3, I, fun H4 L fs w4 nL hL pm => ?_⟩
        walk_at "rx"
        exact ⟨way, 0, L, fs, rfl, by decide, (w2.trans w3).trans w4, (w2.trans w3).free nL, hL, pm⟩
      · walk_at "rx"
        exact ⟨way, many, D, es, rfl, by omega, w2.trans w3, nD0, hD3, List.Perm.refl _⟩
    rintro σ H4 ⟨wy, mn, L, ls, rfl, mn7, w4, nL, hL, pm⟩
    walk_at "rx"
    refine ⟨fun σ H' => ∃ (wy mn : Nat), σ = [some (.ref B.b), some (.ref a), some (.int (wy : Int)), some (.ref L), some (.int (mn : Int)), none, none, none, none, none, none, none, none] ∧ mn ≤ 7 ∧ H' = H4, ?_, ?_⟩
    · walk_at "rx"
      refine ite2 (fun z => ?_) (fun z => ?_)
      · walk_at "rx"
        exact ⟨1, 1, rfl, by decide, rfl⟩
      · walk_at "rx"
        refine ite2 (fun z => ?_) (fun z => ?_)
        · walk_at "rx"
          exact ⟨1, 1, rfl, by decide, rfl⟩
        · walk_at "rx"
          exact ⟨wy, mn, rfl, mn7, rfl⟩
    rintro σ H5 ⟨wy, mn, rfl, mn7, rfl⟩
    have hr2 : -100000 ≤ (mn : Int) ∧ (mn : Int) ≤ 100000 := by omega
    have mL : L ∉ B.m := B.nem i0 nL
    walk_at "rx"
    rw [show ((mn : Int)).toNat = mn by omega]
    refine fr_rng0 (fun i σ H' => ∃ (ls : List Int) (y5 y6 y7 y8 y9 y10 : Option V), σ = [some (.ref B.b), some (.ref a), some (.int (wy : Int)), some (.ref L), some (.int (mn : Int)), y5, y6, y7, y8, y9, y10, none, none] ∧ Wg B H H' ∧ H' L = some (.lst (ls.map V.int)) ∧ ls.Perm es)
      ⟨ls, none, none, none, none, none, none, rfl, w4, hL, pm⟩ ?_ ?_
    · rintro i σ Ha hi ⟨ls, y5, y6, y7, y8, y9, y10, rfl, wa, hLa, pm⟩
      have ll := pm.length_eq
      have rg : ∀ x ∈ ls, -1 ≤ x ∧ x ≤ 999 := fun x hx => I.2.2 x (pm.mem_iff.mp hx)
      have hr3 : -100000 ≤ (((ls.map V.int).length : Nat) : Int) ∧ (((ls.map V.int).length : Nat) : Int) ≤ 100000 := by rw [List.length_map]; omega
      walk_at "rx"
      rw [show ((((ls.map V.int).length : Nat) : Int)).toNat = ls.length by rw [List.length_map]; omega]
      refine lc_acc walk_rng (fun i acc => ∃ ps, acc = nvs ps ∧ (∀ p ∈ ps, p < ls.length ∧ partL ls p wy ≠ []) ∧ ps.length ≤ i) ⟨[], rfl, fun p hp => (by cases hp), Nat.zero_le _⟩ (fun i acc hi e => by obtain ⟨ps, rfl, _, l⟩ := e; rw [nvs_len]; omega) (fun _ _ => trivial) ?_ ?_
      · rintro j x Hx Hy acc Qc R hj Sx ⟨ps, rfl, lt, lp⟩ ⟨rfl, rfl⟩ qc rc
        have hLx := Sx _ _ hLa
        walk_at "rx"
        refine ⟨rfl, ?_⟩
        walk_at "rx"
        refine ⟨L, ls, j, wy, rfl, hLx, by omega, rg, hj, fun H6 P S6 nP hP => ?_⟩
        walk_at "rx"
        refine rd_newQ (by simp) fun H7 O S7 nO hO => ?_
        have hP2 : H7 P = some (.lst ((niz (partL ls j wy)).map V.int)) := S7 _ _ hP
        refine rd_neN hP2 hO ?_
        have hne := List.isEmpty_iff (l := niz (partL ls j wy))
        cases hb : (niz (partL ls j wy)).isEmpty with
        | false =>
          walk_at "rx"
          refine qc _ _ (S6.trans S7) ⟨ps ++ [j], by rw [nvs_app]; rfl, fun p hp => ?_, by rw [List.length_append]; exact Nat.succ_le_succ lp⟩
          rcases List.mem_append.mp hp with y | y
          · exact lt p y
          · rw [List.mem_singleton.mp y]
            exact ⟨hj, fun e => by rw [e] at hb; cases hb⟩
        | true =>
          walk_at "rx"
          exact rc _ (S6.trans S7) ⟨ps, rfl, lt, by omega⟩
      rintro Hb O acc Sb nO hO ⟨ps, rfl, lt, lp⟩
      have wb := wa.same Sb
      have hLb := Sb _ _ hLa
      walk_at "rx"
      refine rd_newQ (by simp) fun Hc O2 Sc nO2 hO2 => ?_
      have hOc := Sc _ _ hO
      have hLc := Sc _ _ hLb
      have wc := wb.same Sc
      have mO : O ∉ B.m := B.nem wa.i1 nO
      have hOc2 : Hc O = some (.lst ((niz ps).map V.int)) := hOc
      refine rd_neN hOc2 hO2 ?_
      cases ps with
      | nil =>
        walk_at "rx"
        show if false = true then _ else _
        walk_at "rx"
        exact ⟨ls, _, _, _, _, _, _, rfl, wc, hLc, pm⟩
      | cons p0 pr =>
        walk_at "rx"
        show if true = true then _ else _
        walk_at "rx"
        refine ⟨B, ((nvs (p0 :: pr)).length : Nat), rfl, hB, wc.i1, by rw [nvs_len, List.length_cons]; omega, by rw [nvs_len]; omega, fun Hd d1 wd hd1 => ?_⟩
        rw [nvs_len] at hd1
        have l1 : d1 < (p0 :: pr).length := by omega
        have e1 : (p0 :: pr)[d1]? = some (p0 :: pr)[d1] := List.getElem?_eq_getElem l1
        have o1 := lt _ (List.getElem_mem l1)
        have hOd := wd.lst mO hOc
        have hLd := wd.lst mL hLc
        have wcd := wc.trans wd
        have ax := nvs_atI (i := d1) e1
        generalize (p0 :: pr)[d1] = one at *
        walk_at "rx"
        refine ⟨L, ls, one, wy, rfl, hLd, by omega, rg, o1.1, fun He P Se nP hP => ?_⟩
        have hLe := Se _ _ hLd
        have we := wcd.same Se
        have mP : P ∉ B.m := B.nem wcd.i1 nP
        have plt := fun p (h : p ∈ partL ls one wy) => part_lt h
        have ple := part_len ls one wy
        have pne : 0 < (partL ls one wy).length := List.length_pos_iff.mpr o1.2
        generalize partL ls one wy = qs at *
        walk_at "rx"
        refine ⟨B, ((nvs qs).length : Nat), rfl, hB, we.i1, by rw [nvs_len]; omega, by rw [nvs_len]; omega, fun Hf d2 wf hd2 => ?_⟩
        rw [nvs_len] at hd2
        have l2 : d2 < qs.length := by omega
        have e2 : qs[d2]? = some qs[d2] := List.getElem?_eq_getElem l2
        have o2 := plt _ (List.getElem_mem l2)
        have hPf := wf.lst mP hP
        have hLf := wf.lst mL hLe
        have wef := we.trans wf
        have ay := nvs_atI (i := d2) e2
        generalize qs[d2] = two at *
        have a1 : atI (ls.map V.int) (one : Int) = some (.int (ls.getD one 0)) := atI_ints (by omega) (by omega)
        have a2 : atI (ls.map V.int) (two : Int) = some (.int (ls.getD two 0)) := atI_ints (by omega) (by omega)
        have x1 : ixN (ls.map V.int).length ((one : Nat) : Int) = some one := ixN_of rfl (by rw [List.length_map]; omega)
        walk_at "rx"
        have hLg : (upd Hf L (.lst ((ls.map V.int).set one (.int (ls.getD two 0))))) L = some (.lst ((ls.set one (ls.getD two 0)).map V.int)) := by rw [upd_same, List.map_set]
        have wg : Wg B H (upd Hf L (.lst ((ls.map V.int).set one (.int (ls.getD two 0))))) := wef.mut nL
        generalize upd Hf L (.lst ((ls.map V.int).set one (.int (ls.getD two 0)))) = Hg at *
        have x2 : ixN ((ls.set one (ls.getD two 0)).map V.int).length ((two : Nat) : Int) = some two := ixN_of rfl (by rw [List.length_map, List.length_set]; omega)
        walk_at "rx"
        exact ⟨_, _, _, _, _, _, _, rfl, wg.mut nL, by rw [upd_same, ← List.map_set], (set_set_perm (by omega) (by omega)).trans pm⟩
    · rintro σ Ha ⟨ls, y5, y6, y7, y8, y9, y10, rfl, wa, hLa, pm⟩
      walk_at "rx"
      exact rd_tupF hLa fun H6 b S6 nb gb => q H6 b ls (wa.same S6) gb ⟨pm.symm, nd⟩
def spcheck_image (K : PySem.W.Frag) : Sp := fun vs H Q E => ∃ (v : V), vs = [v] ∧
  ((∃ es, IG H v es ∧ ∀ H', Same H H' → Q .non H') ∨ (∃ M k, IB M H v k ∧ ∀ H' d, Same H H' → H' d = some (.xd [("block", .int k)]) → E (.ref (atTop K "InvalidImage")) (some d) H'))
set_option maxHeartbeats 4000000 in
theorem okcheck_image (T : Top K mg) {f : Addr} {fd : FuncData} (D : Def K mg "check_image" scheck_image ["image"] f fd) : FnOk P w K mg base (L2.CX P w) 3 f fd ["image"] (spcheck_image K) := by
  obtain ⟨fE_InvalidImage, fdE_InvalidImage, ET_InvalidImage, FE_InvalidImage, bE_InvalidImage⟩ := T.e_InvalidImage
  have GI_InvalidImage := okInit_InvalidImage (P := P) (w := w) (base := base) ET_InvalidImage FE_InvalidImage
  refine D.F.okX sccheck_image (fun vs H Q E h => ?_) (fun cdv A outer s H vs Q E hr h => ?_)
  · obtain ⟨v, rfl, _⟩ := h
    rfl
  · obtain ⟨v, rfl, hc⟩ := h
    refine ⟨_, (pss_cons (ps_if (PW.pt (pw_or (pt_not (pt_val (pe_callB (r := rIsO K) call_isO (by rfl) T.b_isinstance (by decide +kernel) (pa_cons (pv 0) (pa_cons (pe_bltn (v := .ty "tuple") (by rfl) T.b_tuple (by decide +kernel) rfl) pa_nil))))) (pw_or1 (pt_not (pt_chain op_le op_le pe_int (pe_callB (r := rLenQ K) call_lenQ (by rfl) T.b_len PySem.boot_len (pa_cons (pv 0) pa_nil)) (Rv.pe_k (by rfl) T.k__MOST_BLOCKS)))))) (pss_one (ps_raiseQ rfl (takes_of rfl rfl rfl rfl) (pmk_oex ET_InvalidImage.ox ET_InvalidImage.iC ET_InvalidImage.tI GI_InvalidImage (hr.mono (by decide)) bE_InvalidImage .nil pass0 (by rfl) ET_InvalidImage.gC (pa_cons (pe_un un_neg pe_int) pa_nil)))) pss_nil)
    (pss_one (ps_for (passes_of rfl) rfl (pi_enO (by rfl) T.b_enumerate (pa_cons (pv 0) pa_nil)) (pg_tup rfl (pgs_cons (pg_name (i := 1) sccheck_image.nd rfl (.inl rfl)) (pgs_cons (pg_name (i := 2) sccheck_image.nd rfl (.inl rfl)) pgs_nil))) (pss_one (ps_if (PW.pt (pw_or (pt_not (pt_val (pe_callB (r := rIsi K) call_isi (by rfl) T.b_isinstance (by decide +kernel) (pa_cons (pv 2) (pa_cons (pe_bltn (v := .ty "int") (by rfl) T.b_int (by decide +kernel) rfl) pa_nil))))) (pw_or1 (pt_not (pt_chain op_le op_le (Rv.pe_k (by rfl) T.k_EMPTY) (pv 2) (Rv.pe_k (by rfl) T.k__GREATEST)))))) (pss_one (ps_raiseQ rfl (takes_of rfl rfl rfl rfl) (pmk_oex ET_InvalidImage.ox ET_InvalidImage.iC ET_InvalidImage.tI GI_InvalidImage (hr.mono (by decide)) bE_InvalidImage .nil pass0 (by rfl) ET_InvalidImage.gC (pa_cons (pv 1) pa_nil)))) pss_nil))))), ?_⟩
    by_cases hv : ∃ p es, v = .ref p ∧ TG H p es ∧ 1 ≤ es.length ∧ es.length ≤ 12
    · obtain ⟨p, es, rfl, hp, x1, x12⟩ := hv
      obtain ⟨hG, hX⟩ : ((∀ i : Nat, i < es.length → EOk (es.getD i 0)) → ∀ H', Same H H' → Q .non H') ∧
          (∀ j : Nat, j < es.length → ¬ EOk (es.getD j 0) → (∀ i : Nat, i < j → EOk (es.getD i 0)) → ∀ H' d, Same H H' → H' d = some (.xd [("block", .int (j : Int))]) → E (.ref (atTop K "InvalidImage")) (some d) H') := by
        rcases hc with ⟨fs, ⟨a, e1, e2, I⟩, q⟩ | ⟨M, k, bad, q⟩
        · cases e1
          have e := hp.inj e2
          subst e
          exact ⟨fun _ => q, fun j hj n _ => absurd (I.2.2 _ (mem_at hj)) n⟩
        · rcases bad with ⟨_, ⟨p2, ys, e, _, h⟩ | ⟨p2, ys, e, h, l, _⟩⟩ | ⟨p2, ys, j, e, h, l1, l2, ek, hj, nx, ob⟩
          · cases e
            exact absurd h hp.nl
          · cases e
            rw [hp.inj h] at x1 x12
            omega
          · cases e
            have e := hp.inj h
            subst e
            refine ⟨fun g => absurd (g j hj) nx, fun j2 hj2 nx2 ob2 => ?_⟩
            have : j2 = j := by
              rcases Nat.lt_trichotomy j2 j with z | z | z
              · exact absurd (ob j2 z) nx2
              · exact z
              · exact absurd (ob2 j z) nx
            subst this
            rw [ek] at q
            exact q
      walk_at "rx"
      rw [decide_eq_true (show (1 : Int) ≤ ((es.length : Nat) : Int) by omega)]
      walk_at "rx"
      rw [decide_eq_true (show ((es.length : Nat) : Int) ≤ 12 by omega)]
      walk_at "rx"
      refine rd_EnO hp fun G hG0 => ?_
      refine fr_it walk_jen (fun i σ H' => ∃ y1 y2, σ = [some (.ref p), y1, y2] ∧ Same H H' ∧ ∀ j : Nat, j < i → EOk (es.getD j 0)) ⟨none, none, rfl, Same.refl H, fun j h => absurd h (Nat.not_lt_zero j)⟩ (fun i σ H' _ pp => ?_) ?_ ?_
      · obtain ⟨_, _, _, S, _⟩ := pp
        exact hG0 _ S
      · rintro i x σ H1 H2 hi ⟨y1, y2, rfl, S, ob⟩ ⟨t, u, w, rfl, nT, rfl, e1, e2⟩
        cases e1
        have hi2 : i < es.length := by rw [List.length_map] at hi; exact hi
        have e3 : (es.map V.int)[i]? = some w := e2
        rw [List.getElem?_map, get_at hi2] at e3
        cases e3
        have S3 := same_new (o := .tup [.int (i : Nat), V.int (es.getD i 0)]) S nT
        walk_at "rx"
        by_cases z1 : -1 ≤ es.getD i 0
        · rw [decide_eq_true z1]
          walk_at "rx"
          by_cases z2 : es.getD i 0 ≤ 999
          · rw [decide_eq_true z2]
            walk_at "rx"
            refine ⟨_, _, rfl, S3, fun j hj => ?_⟩
            by_cases z : j = i
            · rw [z]; exact ⟨z1, z2⟩
            · exact ob j (by omega)
          · rw [decide_eq_false z2]
            walk_at "rx"
            exact mkErr fun H8 d S8 hd => hX i hi2 (fun w => z2 w.2) ob H8 d (S3.trans S8) hd
        · rw [decide_eq_false z1]
          walk_at "rx"
          exact mkErr fun H8 d S8 hd => hX i hi2 (fun w => z1 w.1) ob H8 d (S3.trans S8) hd
      · rintro σ H' ⟨y1, y2, rfl, S, ob⟩
        exact hG (fun i hi => ob i (by rw [List.length_map]; exact hi)) _ S
    · rcases hc with ⟨es, ⟨a, e1, e2, I⟩, q⟩ | ⟨M, k, bad, q⟩
      · exact absurd ⟨a, _, e1, e2, I.1, I.2.1⟩ hv
      · rcases bad with ⟨ek, ⟨p2, ys, rfl, _, h⟩ | ⟨p2, ys, rfl, h, l, l2⟩⟩ | ⟨p2, ys, j, e, h, l1, l2, _⟩
        · rw [ek] at q
          walk_at "rx"
          refine rd_isOL h ?_
          walk_at "rx"
          exact mkErr fun H8 d S8 hd => q H8 d S8 hd
        · rw [ek] at q
          walk_at "rx"
          by_cases z1 : (1 : Int) ≤ ((ys.length : Nat) : Int)
          · rw [decide_eq_true z1]
            walk_at "rx"
            rw [decide_eq_false (show ¬ ((ys.length : Nat) : Int) ≤ 12 by omega)]
            walk_at "rx"
            exact mkErr fun H8 d S8 hd => q H8 d S8 hd
          · rw [decide_eq_false z1]
            walk_at "rx"
            exact mkErr fun H8 d S8 hd => q H8 d S8 hd
        · exact absurd ⟨p2, ys, e, h, l1, l2⟩ hv
def spcheck_renaming (K : PySem.W.Frag) : Sp := fun vs H Q E => ∃ (v1 v2 : V), vs = [v1, v2] ∧ PairS K H v1 v2 E fun _ _ _ _ => ∀ H', Same H H' → Q .non H'
set_option maxHeartbeats 4000000 in
theorem okcheck_renaming (T : Top K mg) {f : Addr} {fd : FuncData} (D : Def K mg "check_renaming" scheck_renaming ["before", "after"] f fd) : FnOk P w K mg base (L2.CX P w) 4 f fd ["before", "after"] (spcheck_renaming K) := by
  have ET_NotRenaming := T.e_NotRenaming
  obtain ⟨fcheck_image, fdcheck_image, Dcheck_image⟩ := T.d_check_image
  have Gcheck_image : FnOk P w K mg base (L2.CX P w) 3 fcheck_image fdcheck_image ["image"] (spcheck_image K) := okcheck_image T Dcheck_image
  refine D.F.okX sccheck_renaming (fun vs H Q E h => ?_) (fun cdv A outer s H vs Q E hr h => ?_)
  · obtain ⟨v1, v2, rfl, _⟩ := h
    rfl
  · obtain ⟨v1, v2, rfl, hc⟩ := h
    refine ⟨_, (pss_cons (ps_expr (pe_callS Gcheck_image hr (by rfl) Dcheck_image.g Dcheck_image.F.kp Dcheck_image.b (fun σ => passAt (takes_of rfl rfl rfl rfl) σ) (pa_cons (pv 0) pa_nil)))
    (pss_cons (ps_expr (pe_callS Gcheck_image hr (by rfl) Dcheck_image.g Dcheck_image.F.kp Dcheck_image.b (fun σ => passAt (takes_of rfl rfl rfl rfl) σ) (pa_cons (pv 1) pa_nil)))
    (pss_cons (ps_setLc (i := 2) (own := [("entry", 3)]) (g := gName 3) (tt := _) rfl sccheck_renaming.nd rfl rfl (sw_true rfl rfl rfl (by decide +kernel)) (pi_tup (pv 0))
      (blkOk_by (own := [("entry", 3)]) (N := ["before", "after", "values", "entry"]) (sc := defScope scheck_renaming) (by decide +kernel)) (fun _ _ _ _ _ => (pg_name (i := 3) sccheck_renaming.nd rfl (.inl rfl))) (fun _ _ _ _ _ => pts_one (pt_cmpR op_ne (pv 3) (Rv.pe_k (by rfl) T.k_EMPTY) (nomark _)))
      (fun _ _ _ _ _ => (pv 3)))
    (pss_one (ps_if (PW.pt (pw_or (pt_cmpR (op_neD hr.units) (pe_callB (r := rSortO K) cr_sortO (by rfl) T.b_sorted (by decide +kernel) (pa_cons (pv 0) pa_nil)) (pe_callB (r := rSortO K) cr_sortO (by rfl) T.b_sorted (by decide +kernel) (pa_cons (pv 1) pa_nil)) (nomark _)) (pw_or1 (pt_cmpR op_lt (pe_callB (r := rLenSO w) call_lenSO (by rfl) T.b_len PySem.boot_len (pa_cons (pe_callTy (r := rSetI K w) (cr_setI rfl) (by rfl) T.b_set (by decide +kernel) (pa_cons (pv 2) pa_nil)) pa_nil)) (pe_callB (r := rLenQ K) call_lenQ (by rfl) T.b_len PySem.boot_len (pa_cons (pv 2) pa_nil)) (nomark _))))) (pss_one (ps_raiseQ rfl (takes_of rfl rfl rfl rfl) (pmk_own0 PySem.F.excBase_ValueError ET_NotRenaming.q ET_NotRenaming.gC ET_NotRenaming.kC (raises_own ET_NotRenaming.bC ET_NotRenaming.tC) (by rfl)))) pss_nil))))), ?_⟩
    have hc2 : (∃ es fs, IG H v1 es ∧ IG H v2 fs ∧ ((Ren es fs ∧ ∀ H', Same H H' → Q .non H') ∨ (¬ Ren es fs ∧ ∀ H', Same H H' → E (.ref (atTop K "NotRenaming")) none H'))) ∨ (∃ M k, PB M H v1 v2 k ∧ ∀ H' d, Same H H' → H' d = some (.xd [("block", .int k)]) → E (.ref (atTop K "InvalidImage")) (some d) H') := by
      rcases hc with ⟨a, b, es, fs, rfl, rfl, r, q⟩ | ⟨M, k, bad, q⟩ | ⟨es, fs, i1, i2, n, q⟩
      · exact .inl ⟨es, fs, ⟨a, rfl, r.ta, r.ia⟩, ⟨b, rfl, r.tb, r.ib⟩, .inl ⟨r.rn, q⟩⟩
      · exact .inr ⟨M, k, bad, q⟩
      · exact .inl ⟨es, fs, i1, i2, .inr ⟨n, q⟩⟩
    rcases hc2 with ⟨es, fs, h1, h2, hq⟩ | ⟨M, k, bad, q⟩
    · walk_at "rx"
      refine ⟨v1, rfl, .inl ⟨es, h1, fun H1 S1 => ?_⟩⟩
      walk_at "rx"
      refine ⟨v2, rfl, .inl ⟨fs, h2.same S1, fun H2 S2 => ?_⟩⟩
      have S12 := S1.trans S2
      obtain ⟨a, rfl, ha, I⟩ := h1.same S12
      obtain ⟨b, rfl, hb, J⟩ := h2.same S12
      have e12 := I.2.1
      have f12 := J.2.1
      walk_at "rx"
      refine lc_acc (walk_tup (xs := es.map V.int)) (fun i acc => acc = (full (es.take i)).map V.int) rfl (fun i acc hi e => by
        rw [e, List.length_map]
        have := List.length_filter_le (fun x => !decide (x = -1)) (es.take i)
        unfold full
        rw [List.length_take] at this
        omega) (fun H' S => (ha.same S).sq) ?_ ?_
      · rintro i x Hx Hy acc Qc R hi Sx e ⟨rfl, ex⟩ qc rc
        have hi2 : i < es.length := by rw [List.length_map] at hi; exact hi
        rw [List.getElem?_map, List.getElem?_eq_getElem hi2] at ex
        cases ex
        have nx : ∀ r, (if es[i] = -1 then [] else [es[i]]) = r → full (es.take (i + 1)) = full (es.take i) ++ r := fun r er => by
          unfold full
          rw [take_next hi2, List.filter_append, ← er]
          congr 1
          by_cases z : es[i] = -1
          · rw [if_pos z, List.filter_cons_of_neg (by simpa using z)]; rfl
          · rw [if_neg z, List.filter_cons_of_pos (by simpa using z)]; rfl
        walk_at "rx"
        refine ⟨rfl, ?_⟩
        walk_at "rx"
        by_cases z : es[i] = -1
        · rw [decide_eq_true (show V.int es[i] = V.int (-1) from by rw [z])]
          walk_at "rx"
          refine rc _ (Same.refl _) ?_
          rw [nx _ rfl, if_pos z, List.append_nil]
          exact e
        · rw [decide_eq_false (show ¬ V.int es[i] = V.int (-1) from fun w => z (V.int.inj w))]
          walk_at "rx"
          refine qc _ _ (Same.refl _) ?_
          rw [nx _ rfl, if_neg z, List.map_append, e]
          rfl
      · intro H3 D acc S3 nD hD e
        rw [e, List.length_map, List.take_length] at hD
        have lf : (full es).length ≤ es.length := List.length_filter_le _ _
        have ha3 := ha.same S3
        walk_at "rx"
        refine rd_sortO ha3 (by omega) fun H4 p4 ms S4 n4 h4 pm4 pw4 => ?_
        have hb4 := (hb.same S3).same S4
        walk_at "rx"
        refine rd_sortO hb4 (by omega) fun H5 p5 ns S5 n5 h5 pm5 pw5 => ?_
        have h45 := S5 _ _ h4
        have hD5 := S5 _ _ (S4 _ _ hD)
        have S05 := ((S12.trans S3).trans S4).trans S5
        refine rd_neL h45 h5 ?_
        by_cases em : ms = ns
        · have pm : es.Perm fs := (pm4.symm.trans (by rw [em])).trans pm5
          rw [decide_eq_true em]
          walk_at "rx"
          refine rd_setI (.inl hD5) (by omega) fun H6 st c S6 n6 hc h6 => ?_
          walk_at "rx"
          refine rd_lenSO h6 fun hk => ?_
          obtain ⟨ks, k1, k2, k3⟩ := hk
          have hD6 := S6 _ _ hD5
          walk_at "rx"
          rw [List.length_map]
          by_cases nd : (full es).Nodup
          · have := card_nodup nd k1 k2
            rw [decide_eq_false (show ¬ ((c : Nat) : Int) < (((full es).length : Nat) : Int) by omega)]
            walk_at "rx"
            rcases hq with ⟨_, q⟩ | ⟨n, _⟩
            · exact q _ (S05.trans S6)
            · exact absurd ⟨pm, nd⟩ n
          · have := card_dup nd k1 k2
            rw [decide_eq_true (show ((c : Nat) : Int) < (((full es).length : Nat) : Int) by omega)]
            walk_at "rx"
            rcases hq with ⟨r, _⟩ | ⟨_, q⟩
            · exact absurd r.nd nd
            · exact q _ (S05.trans S6)
        · rw [decide_eq_false em]
          walk_at "rx"
          rcases hq with ⟨r, _⟩ | ⟨_, q⟩
          · exact absurd (srt_uniq ((pm4.trans r.pm).trans pm5.symm) pw4 pw5) em
          · exact q _ S05
    · walk_at "rx"
      rcases bad with bad | ⟨es, h1, bad⟩
      · exact ⟨v1, rfl, .inr ⟨M, k, bad, q⟩⟩
      · refine ⟨v1, rfl, .inl ⟨es, h1, fun H1 S1 => ?_⟩⟩
        walk_at "rx"
        exact ⟨v2, rfl, .inr ⟨M, k, bad.same S1, fun H' d S => q H' d (S1.trans S)⟩⟩
def sp_leads (K : PySem.W.Frag) : Sp := fun vs H Q E => ∃ (v1 v2 : V), vs = [v1, v2] ∧ PairS K H v1 v2 E fun _ _ es fs => ∀ H' p, Same H H' → H' p = some (.tup ((ldL es fs).map V.int)) → Q (.ref p) H'
set_option maxHeartbeats 4000000 in
theorem ok_leads (T : Top K mg) {f : Addr} {fd : FuncData} (D : Def K mg "_leads" s_leads ["before", "after"] f fd) : FnOk P w K mg base (L2.CX P w) 5 f fd ["before", "after"] (sp_leads K) := by
  obtain ⟨fcheck_renaming, fdcheck_renaming, Dcheck_renaming⟩ := T.d_check_renaming
  have Gcheck_renaming : FnOk P w K mg base (L2.CX P w) 4 fcheck_renaming fdcheck_renaming ["before", "after"] (spcheck_renaming K) := okcheck_renaming T Dcheck_renaming
  refine D.F.okX sc_leads (fun vs H Q E h => ?_) (fun cdv A outer s H vs Q E hr h => ?_)
  · obtain ⟨v1, v2, rfl, _⟩ := h
    rfl
  · obtain ⟨v1, v2, rfl, hc⟩ := h
    refine ⟨_, (pss_cons (ps_expr (pe_callS Gcheck_renaming hr (by rfl) Dcheck_renaming.g Dcheck_renaming.F.kp Dcheck_renaming.b (fun σ => passAt (takes_of rfl rfl rfl rfl) σ) (pa_cons (pv 0) (pa_cons (pv 1) pa_nil))))
    (pss_one (ps_ret (pe_callTy (r := rTupQ K) call_tupQ (by rfl) T.b_tuple (by decide +kernel) (pa_cons (pe_lc (own := [("entry", 2)]) (g := gName 2) (tt := tYes) rfl sc_leads.nd (pi_tup (pv 1))
      (blkOk_by (own := [("entry", 2)]) (N := ["before", "after", "entry"]) (sc := defScope s_leads) (by decide +kernel)) (fun _ _ _ _ _ => (pg_name (i := 2) sc_leads.nd rfl (.inl rfl))) (fun _ _ _ _ _ => pts_nil)
      (fun _ _ _ _ _ => (pe_ifExp (pt_cmpR op_eq (pv 2) (Rv.pe_k (by rfl) T.k_EMPTY) (nomark _)) (Rv.pe_k (by rfl) T.k_EMPTY) (pe_tix (pv 0) (pv 2))))) pa_nil))))), ?_⟩
    walk_at "rx"
    refine ⟨v1, v2, rfl, ?_⟩
    rcases hc with ⟨a, b, es, fs, rfl, rfl, r, q⟩ | hc
    · refine .inl ⟨a, b, es, fs, rfl, rfl, r, fun H1 S1 => ?_⟩
      have r1 := r.same S1
      have e12 := r.ia.2.1
      have f12 := r.ib.2.1
      have hb1 := r1.tb
      walk_at "rx"
      refine lc_map (walk_tup (xs := fs.map V.int)) ((ldL es fs).map V.int) (by rw [List.length_map, List.length_map]; exact ldL_len es fs) (by rw [List.length_map]; omega) (fun H' S => (hb1.same S).sq) ?_ ?_
      · rintro i x Hx Hy Qc R hi Sx ⟨rfl, ex⟩ qc
        have hi2 : i < fs.length := by rw [List.length_map] at hi; exact hi
        rw [List.getElem?_map, get_at hi2] at ex
        cases ex
        have ga := r1.ga.same Sx
        have il : ((ldL es fs).map V.int)[i]? = some (V.int (if fs.getD i 0 = -1 then -1 else ((es.idxOf (fs.getD i 0) : Nat) : Int))) := by
          unfold ldL
          rw [List.getElem?_map, List.getElem?_map, get_at hi2]
          rfl
        walk_at "rx"
        refine ⟨rfl, ?_⟩
        walk_at "rx"
        by_cases z : fs.getD i 0 = -1
        · rw [decide_eq_true (show V.int (fs.getD i 0) = V.int (-1) from by rw [z])]
          walk_at "rx"
          rw [if_pos z] at il
          exact qc _ _ (Same.refl _) il
        · rw [decide_eq_false (show ¬ V.int (fs.getD i 0) = V.int (-1) from fun w => z (V.int.inj w))]
          walk_at "rx"
          rw [if_neg z] at il
          refine rd_tixI rfl rfl ga (r.rn.pm.mem_iff.mpr (mem_at hi2)) ?_
          exact qc _ _ (Same.refl _) il
      · intro H2 D S2 nD hD
        walk_at "rx"
        refine rd_newL fun H3 p S3 np hp => q H3 p ((S1.trans S2).trans S3) hp
    · exact .inr hc
def spfollowed (_K : PySem.W.Frag) : Sp := fun vs H Q _ => ∃ (l : Addr) (es fs : List Int) (b : Nat), vs = [.ref l, .int (b : Int)] ∧ H l = some (.tup ((ldL es fs).map V.int)) ∧ Ren es fs ∧ es.length ≤ 12 ∧ b < es.length ∧ ∀ H' p, Same H H' → H' p = some (.tup (nvs (Fo es fs b))) → Q (.ref p) H'
set_option maxHeartbeats 4000000 in
theorem okfollowed (T : Top K mg) {f : Addr} {fd : FuncData} (D : Def K mg "followed" sfollowed ["leads", "block"] f fd) : FnOk P w K mg base CX0 1 f fd ["leads", "block"] (spfollowed K) := by
  refine D.F.ok scfollowed (fun vs H Q E h => ?_) (fun cdv A outer s H vs Q E hr h => ?_)
  · obtain ⟨l, es, fs, b, rfl, _⟩ := h
    rfl
  · obtain ⟨l, es, fs, b, rfl, hl, R, l12, hb, q⟩ := h
    have lf := R.len
    refine ⟨_, (pss_cons (ps_set (i := 2) scfollowed.nd rfl (.inl rfl) (pe_lst (pa_cons (pv 1) pa_nil)))
    (pss_cons (ps_while PassesOwn.never (PW.pt (pw_and (pt_cmpR op_ne (pe_ix (r := rIxT K) ix_tup (pv 0) (pe_ix (r := rIxL K) ix_list (pv 2) (pe_un un_neg pe_int) (fun _ _ => rfl)) (fun _ _ => rfl)) (Rv.pe_k (by rfl) T.k_EMPTY) (nomark _)) (pw_and1 (pt_cmpR (r := rIn K true) op_notIn_seq (pe_ix (r := rIxT K) ix_tup (pv 0) (pe_ix (r := rIxL K) ix_list (pv 2) (pe_un un_neg pe_int) (fun _ _ => rfl)) (fun _ _ => rfl)) (pv 2) (by rfl))))) (pss_one (ps_expr (pe_bm PySem.F.plainAttrs_list PySem.F.slot_list_append PySem.F.type_list_append mt_append (pv 2) (pa_cons (pe_ix (r := rIxT K) ix_tup (pv 0) (pe_ix (r := rIxL K) ix_list (pv 2) (pe_un un_neg pe_int) (fun _ _ => rfl)) (fun _ _ => rfl)) pa_nil)))))
    (pss_one (ps_ret (pe_callTy (r := rTupQ K) call_tupQ (by rfl) T.b_tuple (by decide +kernel) (pa_cons (pv 2) pa_nil)))))), ?_⟩
    walk_at "rx"
    refine rd_newQ (by simp) fun H1 D S1 nD hD => ?_
    walk_at "rx"
    refine ⟨fun m σ H' => ∃ p : List Nat, σ = [some (.ref l), some (.int (b : Int)), some (.ref D)] ∧ Same H H' ∧ H' D = some (.lst (nvs p)) ∧ Pth (G es fs) es.length b p ∧ p.length + m = es.length + 1 ∧ fol (G es fs) m p = Fo es fs b,
      ⟨es.length, [b], rfl, S1, hD, .start hb, by rw [List.length_singleton]; omega, rfl⟩, ?_⟩
    rintro m σ H2 ⟨p, rfl, S2, hD2, P, lm, ef⟩
    have hl2 := S2 _ _ hl
    have ll := P.lt _ (last_mem P.ne)
    have la := nvs_last P.ne
    have ga := ldL_at (es := es) (fs := fs) (b := p.getLastD 0) (by omega)
    have done : fol (G es fs) m p = p → ∀ H3 t, Same H2 H3 → H3 t = some (.tup (nvs p)) → Q (.ref t) H3 := fun e H3 t S3 h3 => q H3 t (S2.trans S3) (by rw [← ef, e]; exact h3)
    walk_at "rx"
    by_cases n : fs.getD (p.getLastD 0) 0 = -1
    · rw [if_pos n] at ga ⊢
      rw [decide_eq_true (show V.int (-1) = V.int (-1) from rfl)]
      walk_at "rx"
      have e : fol (G es fs) m p = p := fol_stop (by unfold G; rw [if_pos n]; exact last_mem P.ne) m
      refine rd_newL fun H3 t S3 n3 h3 => done e H3 t S3 h3
    · rw [if_neg n] at ga ⊢
      have gl := (R.to ll n).1
      rw [decide_eq_false (show ¬ V.int ((G es fs (p.getLastD 0) : Nat) : Int) = V.int (-1) from fun z => by have := V.int.inj z; omega)]
      walk_at "rx"
      refine rd_ninLf hD2 rfl (nvs_flat _) ?_
      rw [nvs_in]
      refine ⟨_, rfl, ?_⟩
      by_cases z : G es fs (p.getLastD 0) ∈ p
      · rw [decide_eq_true z]
        show if false = true then _ else _
        walk_at "rx"
        refine rd_newL fun H3 t S3 n3 h3 => done (fol_stop z m) H3 t S3 h3
      · rw [decide_eq_false z]
        show if true = true then _ else _
        have lp := P.len
        cases m with
        | zero => exact absurd lm (by omega)
        | succ m =>
          walk_at "rx"
          refine ⟨fun σ' H' => ∃ p2 : List Nat, σ' = [some (.ref l), some (.int (b : Int)), some (.ref D)] ∧ Same H H' ∧ H' D = some (.lst (nvs p2)) ∧ Pth (G es fs) es.length b p2 ∧ p2.length + m = es.length + 1 ∧ fol (G es fs) m p2 = Fo es fs b, fun σ' H' k => ⟨m, Nat.lt_succ_self m, k⟩, ?_⟩
          have la2 : (nvs p).length < 1000 := by rw [nvs_len]; omega
          walk_at "rx"
          exact ⟨p ++ [G es fs (p.getLastD 0)], rfl, same_mut S2 nD, by rw [nvs_app]; exact upd_same, P.next z gl, by rw [List.length_append, List.length_singleton]; omega, (fol_step z m).symm.trans ef⟩
def spchains (K : PySem.W.Frag) : Sp := fun vs H Q E => ∃ (v1 v2 : V), vs = [v1, v2] ∧ PairS K H v1 v2 E fun _ _ es fs => ∀ H' l bs, Same H H' → H' l = some (.lst (bs.map V.ref)) → NRows H' bs ((starts es fs es.length).map (Fo es fs)) → Q (.ref l) H'
set_option maxHeartbeats 4000000 in
theorem okchains (T : Top K mg) {f : Addr} {fd : FuncData} (D : Def K mg "chains" schains ["before", "after"] f fd) : FnOk P w K mg base (L2.CX P w) 6 f fd ["before", "after"] (spchains K) := by
  obtain ⟨f_leads, fd_leads, D_leads⟩ := T.d__leads
  have G_leads : FnOk P w K mg base (L2.CX P w) 5 f_leads fd_leads ["before", "after"] (sp_leads K) := ok_leads T D_leads
  obtain ⟨ffollowed, fdfollowed, Dfollowed⟩ := T.d_followed
  have Gfollowed : FnOk P w K mg base CX0 1 ffollowed fdfollowed ["leads", "block"] (spfollowed K) := okfollowed T Dfollowed
  refine D.F.okX scchains (fun vs H Q E h => ?_) (fun cdv A outer s H vs Q E hr h => ?_)
  · obtain ⟨v1, v2, rfl, _⟩ := h
    rfl
  · obtain ⟨v1, v2, rfl, hc⟩ := h
    refine ⟨_, (pss_cons (ps_set (i := 2) scchains.nd rfl (.inr rfl) (pe_callS G_leads hr (by rfl) D_leads.g D_leads.F.kp D_leads.b (fun σ => passAt (takes_of rfl rfl rfl rfl) σ) (pa_cons (pv 0) (pa_cons (pv 1) pa_nil))))
    (pss_cons (ps_setLc (i := 3) (own := [("block", 4), ("entry", 5)]) (g := gTup K 2 (gCons (gName 4) (gCons (gName 5) gNil))) (tt := _) rfl scchains.nd rfl rfl (sw_true rfl rfl rfl (by decide +kernel)) (pi_enO (by rfl) T.b_enumerate (pa_cons (pv 0) pa_nil))
      (blkOk_by (own := [("block", 4), ("entry", 5)]) (N := ["before", "after", "leads", "starts", "block", "entry"]) (sc := defScope schains) (by decide +kernel)) (fun _ _ _ _ _ => (pg_tup rfl (pgs_cons (pg_name (i := 4) scchains.nd rfl (.inl rfl)) (pgs_cons (pg_name (i := 5) scchains.nd rfl (.inl rfl)) pgs_nil)))) (fun _ _ _ _ _ => pts_one (PW.pt (pw_and (pt_cmpR op_eq (pv 5) (Rv.pe_k (by rfl) T.k_EMPTY) (nomark _)) (pw_and1 (pt_cmpR op_ne (pe_ix (r := rIxT K) ix_tup (pv 1) (pv 4) (fun _ _ => rfl)) (Rv.pe_k (by rfl) T.k_EMPTY) (nomark _))))))
      (fun _ _ _ _ _ => (pv 4)))
    (pss_one (ps_ret (pe_lc (own := [("block", 4)]) (g := gName 4) (tt := tYes) rfl scchains.nd (pi_list (pv 3))
      (blkOk_by (own := [("block", 4)]) (N := ["before", "after", "leads", "starts", "block", "entry"]) (sc := defScope schains) (by decide +kernel)) (fun _ _ _ _ _ => (pg_name (i := 4) scchains.nd rfl (.inl rfl))) (fun _ _ _ _ _ => pts_nil)
      (fun _ _ _ _ _ => (pe_call Gfollowed (hr.mono (by decide)) (by rfl) Dfollowed.g Dfollowed.F.kp Dfollowed.b .nil pass0 (pa_cons (pv 2) (pa_cons (pv 4) pa_nil))))))))), ?_⟩
    walk_at "rx"
    refine ⟨v1, v2, rfl, ?_⟩
    rcases hc with ⟨a, b, es, fs, rfl, rfl, r, q⟩ | hc
    · refine .inl ⟨a, b, es, fs, rfl, rfl, r, fun H1 ld S1 hld => ?_⟩
      have R := r.rn
      have e12 := r.ia.2.1
      have lf := R.len
      have r1 := r.same S1
      have ha1 := r1.ta
      walk_at "rx"
      refine rd_EnO ha1 fun Gd hG0 => ?_
      refine lc_acc walk_jen (fun i acc => acc = nvs (starts es fs i)) rfl (fun i acc hi e => by
        rw [e, nvs_len]
        have := List.length_filter_le (fun b => decide (Ch es fs b)) (List.range i)
        unfold starts
        rw [List.length_range] at this
        rw [List.length_map] at hi
        omega) (fun H' S => hG0 _ S) ?_ ?_
      · rintro i x Hx Hy acc Qc R2 hi Sx e ⟨t, u, w, rfl, nT, rfl, e1, e2⟩ qc rc
        cases e1
        have hi2 : i < es.length := by rw [List.length_map] at hi; exact hi
        have e3 : (es.map V.int)[i]? = some w := e2
        rw [List.getElem?_map, get_at hi2] at e3
        cases e3
        have S4 := same_new (o := .tup [.int (i : Nat), V.int (es.getD i 0)]) (Same.refl Hx) nT
        have hbx := (r1.tb.same Sx).same S4
        have bi : atI (fs.map V.int) (i : Int) = some (.int (fs.getD i 0)) := atI_ints (by omega) (by omega)
        have nx : starts es fs (i + 1) = starts es fs i ++ if Ch es fs i then [i] else [] := by
          unfold starts
          rw [List.range_succ, List.filter_append]
          congr 1
          by_cases z : Ch es fs i
          · rw [if_pos z, List.filter_cons_of_pos (by rw [decide_eq_true z])]; rfl
          · rw [if_neg z, List.filter_cons_of_neg (by rw [decide_eq_false z]; decide)]; rfl
        have no : ¬ Ch es fs i → nvs (starts es fs (i + 1)) = nvs (starts es fs i) := fun n => by rw [nx, if_neg n, List.append_nil]
        walk_at "rx"
        refine ⟨rfl, ?_⟩
        walk_at "rx"
        by_cases z : es.getD i 0 = -1
        · rw [decide_eq_true (show V.int (es.getD i 0) = V.int (-1) from by rw [z])]
          walk_at "rx"
          by_cases y : fs.getD i 0 = -1
          · rw [decide_eq_true (show V.int (fs.getD i 0) = V.int (-1) from by rw [y])]
            walk_at "rx"
            exact rc _ S4 (e.trans (no fun c => c.2 y).symm)
          · rw [decide_eq_false (show ¬ V.int (fs.getD i 0) = V.int (-1) from fun w => y (V.int.inj w))]
            walk_at "rx"
            refine qc _ _ S4 ?_
            rw [nx, if_pos ⟨z, y⟩, nvs_app, e]
            rfl
        · rw [decide_eq_false (show ¬ V.int (es.getD i 0) = V.int (-1) from fun w => z (V.int.inj w))]
          walk_at "rx"
          exact rc _ S4 (e.trans (no fun c => z c.1).symm)
      · rintro H2 D acc S2 nD hD e
        rw [e, List.length_map] at hD
        have hld2 := S2 _ _ hld
        have ls : (starts es fs es.length).length ≤ es.length := by
          have := List.length_filter_le (fun b => decide (Ch es fs b)) (List.range es.length)
          rw [List.length_range] at this
          exact this
        walk_at "rx"
        refine lc_acc2 (walk_list (xs := nvs (starts es fs es.length))) (fun i acc H' => ∃ bs, acc = bs.map V.ref ∧ NRows H' bs (((starts es fs es.length).take i).map (Fo es fs))) ⟨[], rfl, TupsAt.nil⟩ (fun i acc Ha Hb k pp => by obtain ⟨bs, e1, e2⟩ := pp; exact ⟨bs, e1, e2.kt k⟩) (fun i acc H' hi pp => by
          obtain ⟨cs, rfl, e2⟩ := pp
          have := NRows.len e2
          rw [List.length_map, List.length_take] at this
          rw [List.length_map]
          omega) (fun H' S => SqL.of (S _ _ hD)) ?_ ?_
        · rintro i x Hx Hy acc Qc R2 hi Sx ⟨bs, rfl, tb⟩ ⟨rfl, ex⟩ qc rc
          rw [nvs_len] at hi
          have ei : (starts es fs es.length)[i]? = some (starts es fs es.length)[i] := List.getElem?_eq_getElem hi
          rw [nvs_get ei] at ex
          cases ex
          have hb2 := (mem_starts.mp (List.getElem_mem hi)).1
          have hldx := Sx _ _ hld2
          walk_at "rx"
          refine ⟨rfl, ?_⟩
          walk_at "rx"
          refine ⟨ld, es, fs, _, rfl, hldx, R, e12, hb2, fun H4 p S4 hp => ?_⟩
          refine qc _ _ S4 ⟨bs ++ [p], by rw [List.map_append]; rfl, ?_⟩
          rw [take_next hi, List.map_append]
          exact NRows.snoc (TupsAt.same S4 tb) hp
        · rintro H3 D3 acc S3 nD3 hD3 ⟨bs, rfl, tb⟩
          rw [nvs_len, List.take_length] at tb
          walk_at "rx"
          exact q H3 D3 bs ((S1.trans S2).trans S3) hD3 tb
    · exact .inr hc
def spall_rings (_K : PySem.W.Frag) : Sp := fun vs H Q _ => ∃ (l : Addr) (es fs : List Int), vs = [.ref l] ∧ H l = some (.tup ((ldL es fs).map V.int)) ∧ Ren es fs ∧ es.length ≤ 12 ∧ ∀ H' l2 bs, Same H H' → H' l2 = some (.lst (bs.map V.ref)) → NRows H' bs ((tops es fs es.length).map (Fo es fs)) → Q (.ref l2) H'
set_option maxHeartbeats 4000000 in
theorem okall_rings (T : Top K mg) {f : Addr} {fd : FuncData} (D : Def K mg "all_rings" sall_rings ["leads"] f fd) : FnOk P w K mg base CX0 2 f fd ["leads"] (spall_rings K) := by
  obtain ⟨ffollowed, fdfollowed, Dfollowed⟩ := T.d_followed
  have Gfollowed : FnOk P w K mg base CX0 1 ffollowed fdfollowed ["leads", "block"] (spfollowed K) := okfollowed T Dfollowed
  refine D.F.ok scall_rings (fun vs H Q E h => ?_) (fun cdv A outer s H vs Q E hr h => ?_)
  · obtain ⟨l, es, fs, rfl, _⟩ := h
    rfl
  · obtain ⟨l, es, fs, rfl, hl, R, l12, q⟩ := h
    have lf := R.len
    have ll : ((ldL es fs).map V.int).length = es.length := by rw [List.length_map, ldL_len, ← lf]
    have hr1 : -100000 ≤ ((((ldL es fs).map V.int).length : Nat) : Int) ∧ ((((ldL es fs).map V.int).length : Nat) : Int) ≤ 100000 := by rw [ll]; omega
    refine ⟨_, (pss_cons (ps_setLc (i := 1) (own := [("block", 2)]) (g := gName 2) (tt := tYes) rfl scall_rings.nd rfl rfl (sw_true rfl rfl rfl (by decide +kernel)) (pi_range1 (by rfl) T.b_range (pa_cons (pe_callB (r := rLenQ K) call_lenQ (by rfl) T.b_len PySem.boot_len (pa_cons (pv 0) pa_nil)) pa_nil))
      (blkOk_by (own := [("block", 2)]) (N := ["leads", "paths", "block", "path"]) (sc := defScope sall_rings) (by decide +kernel)) (fun _ _ _ _ _ => (pg_name (i := 2) scall_rings.nd rfl (.inl rfl))) (fun _ _ _ _ _ => pts_nil)
      (fun _ _ _ _ _ => (pe_call Gfollowed hr (by rfl) Dfollowed.g Dfollowed.F.kp Dfollowed.b .nil pass0 (pa_cons (pv 0) (pa_cons (pv 2) pa_nil)))))
    (pss_one (ps_ret (pe_lc (own := [("path", 3)]) (g := gName 3) (tt := _) rfl scall_rings.nd (pi_list (pv 1))
      (blkOk_by (own := [("path", 3)]) (N := ["leads", "paths", "block", "path"]) (sc := defScope sall_rings) (by decide +kernel)) (fun _ _ _ _ _ => (pg_name (i := 3) scall_rings.nd rfl (.inl rfl))) (fun _ _ _ _ _ => pts_one (PW.pt (pw_and (pt_cmpR op_gt (pe_callB (r := rLenQ K) call_lenQ (by rfl) T.b_len PySem.boot_len (pa_cons (pv 3) pa_nil)) pe_int (nomark _)) (pw_and (pt_cmpR op_eq (pe_ix (r := rIxT K) ix_tup (pv 0) (pe_ix (r := rIxT K) ix_tup (pv 3) (pe_un un_neg pe_int) (fun _ _ => rfl)) (fun _ _ => rfl)) (pe_ix (r := rIxT K) ix_tup (pv 3) pe_int (fun _ _ => rfl)) (nomark _)) (pw_and1 (pt_cmpR op_eq (pe_ix (r := rIxT K) ix_tup (pv 3) pe_int (fun _ _ => rfl)) (pe_callB (r := rMinT) (cr_minT rfl (by exact hr.units)) (by rfl) T.b_min (by decide +kernel) (pa_cons (pv 3) pa_nil)) (nomark _)))))))
      (fun _ _ _ _ _ => (pv 3)))))), ?_⟩
    walk_at "rx"
    rw [show (((((ldL es fs).map V.int).length : Nat) : Int)).toNat = es.length by rw [ll]; omega]
    refine lc_acc2 walk_rng (fun i acc H' => ∃ bs, acc = bs.map V.ref ∧ NRows H' bs ((List.range i).map (Fo es fs))) ⟨[], rfl, TupsAt.nil⟩ (fun i acc Ha Hb k pp => by obtain ⟨bs, e1, e2⟩ := pp; exact ⟨bs, e1, e2.kt k⟩) (fun i acc H' hi pp => by
      obtain ⟨bs, rfl, e2⟩ := pp
      have := NRows.len e2
      rw [List.length_map, List.length_range] at this
      rw [List.length_map]
      omega) (fun _ _ => trivial) ?_ ?_
    · rintro i x Hx Hy acc Qc R2 hi Sx ⟨bs, rfl, tb⟩ ⟨rfl, rfl⟩ qc rc
      have hlx := Sx _ _ hl
      walk_at "rx"
      refine ⟨rfl, ?_⟩
      walk_at "rx"
      refine ⟨l, es, fs, i, rfl, hlx, R, l12, hi, fun H3 p S3 hp => ?_⟩
      refine qc _ _ S3 ⟨bs ++ [p], by rw [List.map_append]; rfl, ?_⟩
      rw [List.range_succ, List.map_append]
      exact NRows.snoc (TupsAt.same S3 tb) hp
    · rintro H3 D acc S nD hD ⟨bs, rfl, tb⟩
      have lb : bs.length = es.length := by
        have := NRows.len tb
        rw [List.length_map, List.length_range] at this
        exact this
      have hl3 := S _ _ hl
      walk_at "rx"
      refine lc_acc2 (walk_list (xs := bs.map V.ref)) (fun i acc H' => ∃ cs, acc = cs.map V.ref ∧ NRows H' cs ((tops es fs i).map (Fo es fs))) ⟨[], rfl, TupsAt.nil⟩ (fun i acc Ha Hb k pp => by obtain ⟨bs, e1, e2⟩ := pp; exact ⟨bs, e1, e2.kt k⟩) (fun i acc H' hi pp => by
        obtain ⟨cs, rfl, e2⟩ := pp
        have := NRows.len e2
        have l2 := List.length_filter_le (fun b => decide (IsR (G es fs) (Fo es fs b))) (List.range i)
        rw [List.length_range] at l2
        rw [List.length_map] at this
        unfold tops at this
        rw [List.length_map] at hi ⊢
        omega) (fun H' S => SqL.of (S _ _ hD)) ?_ ?_
      · rintro i x Hx Hy acc Qc R2 hi Sx ⟨cs, rfl, tc⟩ ⟨rfl, ex⟩ qc rc
        rw [List.length_map] at hi
        have hi2 : i < es.length := by omega
        have ew : ((List.range es.length).map (Fo es fs))[i]? = some (Fo es fs i) := by
          rw [List.getElem?_map, List.getElem?_range hi2]
          rfl
        obtain ⟨b, e1, e2⟩ := NRows.at (TupsAt.same Sx tb) ew
        rw [List.getElem?_map, e1] at ex
        cases ex
        have hlx := Sx _ _ hl3
        obtain ⟨P, _⟩ := fo_p R hi2
        have la := nvs_last P.ne
        have lle := P.lt _ (last_mem P.ne)
        have ga := ldL_at (es := es) (fs := fs) (b := (Fo es fs i).getLastD 0) (by omega)
        have h0 : atI (nvs (Fo es fs i)) (0 : Int) = some (V.int (i : Int)) := nvs_atI (i := 0) P.hd
        have hd := P.headD
        have nx : tops es fs (i + 1) = tops es fs i ++ if IsR (G es fs) (Fo es fs i) then [i] else [] := by
          unfold tops
          rw [List.range_succ, List.filter_append]
          congr 1
          by_cases z : IsR (G es fs) (Fo es fs i)
          · rw [if_pos z, List.filter_cons_of_pos (by rw [decide_eq_true z])]; rfl
          · rw [if_neg z, List.filter_cons_of_neg (by rw [decide_eq_false z]; decide)]; rfl
        have no : ¬ IsR (G es fs) (Fo es fs i) → R2 Hy := fun k => rc Hy (Same.refl _) ⟨cs, rfl, by rw [nx, if_neg k, List.append_nil]; exact tc⟩
        walk_at "rx"
        refine ⟨rfl, ?_⟩
        walk_at "rx"
        by_cases z1 : 1 < (Fo es fs i).length
        · rw [decide_eq_true (show (1 : Int) < (((nvs (Fo es fs i)).length : Nat) : Int) by rw [nvs_len]; omega)]
          walk_at "rx"
          by_cases n : fs.getD ((Fo es fs i).getLastD 0) 0 = -1
          · rw [if_pos n] at ga ⊢
            rw [decide_eq_false (show ¬ V.int (-1) = V.int (i : Int) from fun w => by have := V.int.inj w; omega)]
            walk_at "rx"
            exact no fun k => (rg_end R hi2 k).2.1 n
          · rw [if_neg n] at ga ⊢
            by_cases z2 : G es fs ((Fo es fs i).getLastD 0) = i
            · rw [decide_eq_true (show V.int ((G es fs ((Fo es fs i).getLastD 0) : Nat) : Int) = V.int (i : Int) from by rw [z2])]
              walk_at "rx"
              refine rd_minT (ns := niz (Fo es fs i)) e2 (by rw [niz_len]; omega) fun m hm hle => ?_
              obtain ⟨x, rfl, hx⟩ := niz_of hm
              walk_at "rx"
              by_cases z3 : i = x
              · rw [decide_eq_true (show V.int (i : Int) = V.int (x : Int) from by rw [z3])]
                walk_at "rx"
                refine qc _ _ (Same.refl _) ⟨cs ++ [b], by rw [List.map_append]; rfl, ?_⟩
                rw [nx, if_pos ⟨z1, by rw [hd]; exact z2, fun y hy => by
                  rw [hd, z3]
                  have := hle _ (mem_niz.mpr hy)
                  omega⟩, List.map_append]
                exact tc.snoc e2
              · rw [decide_eq_false (show ¬ V.int (i : Int) = V.int (x : Int) from fun w => z3 (by have := V.int.inj w; omega))]
                walk_at "rx"
                refine no fun k => z3 ?_
                have k1 := k.2.2 x hx
                rw [hd] at k1
                have k2 := hle _ (mem_niz.mpr (List.mem_of_getElem? P.hd))
                omega
            · rw [decide_eq_false (show ¬ V.int ((G es fs ((Fo es fs i).getLastD 0) : Nat) : Int) = V.int (i : Int) from fun w => z2 (by have := V.int.inj w; omega))]
              walk_at "rx"
              exact no fun k => z2 (by have := k.2.1; rw [hd] at this; exact this)
        · rw [decide_eq_false (show ¬ (1 : Int) < (((nvs (Fo es fs i)).length : Nat) : Int) by rw [nvs_len]; omega)]
          walk_at "rx"
          exact no fun k => z1 k.1
      · rintro H4 D4 acc S4 nD4 hD4 ⟨cs, rfl, tc⟩
        rw [List.length_map, lb] at tc
        walk_at "rx"
        exact q H4 D4 cs (S.trans S4) hD4 tc
def springs (K : PySem.W.Frag) : Sp := fun vs H Q E => ∃ (v1 v2 : V), vs = [v1, v2] ∧ PairS K H v1 v2 E fun _ _ es fs => ∀ H' l bs, Same H H' → H' l = some (.lst (bs.map V.ref)) → NRows H' bs ((tops es fs es.length).map (Fo es fs)) → Q (.ref l) H'
set_option maxHeartbeats 4000000 in
theorem okrings (T : Top K mg) {f : Addr} {fd : FuncData} (D : Def K mg "rings" srings ["before", "after"] f fd) : FnOk P w K mg base (L2.CX P w) 6 f fd ["before", "after"] (springs K) := by
  obtain ⟨fall_rings, fdall_rings, Dall_rings⟩ := T.d_all_rings
  have Gall_rings : FnOk P w K mg base CX0 2 fall_rings fdall_rings ["leads"] (spall_rings K) := okall_rings T Dall_rings
  obtain ⟨f_leads, fd_leads, D_leads⟩ := T.d__leads
  have G_leads : FnOk P w K mg base (L2.CX P w) 5 f_leads fd_leads ["before", "after"] (sp_leads K) := ok_leads T D_leads
  refine D.F.okX scrings (fun vs H Q E h => ?_) (fun cdv A outer s H vs Q E hr h => ?_)
  · obtain ⟨v1, v2, rfl, _⟩ := h
    rfl
  · obtain ⟨v1, v2, rfl, hc⟩ := h
    refine ⟨_, (pss_one (ps_ret (pe_call Gall_rings (hr.mono (by decide)) (by rfl) Dall_rings.g Dall_rings.F.kp Dall_rings.b .nil pass0 (pa_cons (pe_callS G_leads hr (by rfl) D_leads.g D_leads.F.kp D_leads.b (fun σ => passAt (takes_of rfl rfl rfl rfl) σ) (pa_cons (pv 0) (pa_cons (pv 1) pa_nil))) pa_nil)))), ?_⟩
    walk_at "rx"
    refine ⟨v1, v2, rfl, ?_⟩
    rcases hc with ⟨a, b, es, fs, rfl, rfl, r, q⟩ | hc
    · refine .inl ⟨a, b, es, fs, rfl, rfl, r, fun H1 ld S1 hld => ?_⟩
      walk_at "rx"
      exact ⟨ld, es, fs, rfl, hld, r.rn, r.ia.2.1, fun H2 l bs S2 h2 t2 => q H2 l bs (S1.trans S2) h2 t2⟩
    · exact .inr hc
def spmoving (K : PySem.W.Frag) : Sp := fun vs H Q E => ∃ (v1 v2 : V), vs = [v1, v2] ∧ PairS K H v1 v2 E fun _ _ es fs => ∀ H' p (ms : List Int), Same H H' → H' p = some (.tup (ms.map V.int)) → ms.Perm (mvA es fs es.length) → ms.Pairwise (· ≤ ·) → Q (.ref p) H'
set_option maxHeartbeats 4000000 in
theorem okmoving (T : Top K mg) {f : Addr} {fd : FuncData} (D : Def K mg "moving" smoving ["before", "after"] f fd) : FnOk P w K mg base (L2.CX P w) 5 f fd ["before", "after"] (spmoving K) := by
  obtain ⟨fcheck_renaming, fdcheck_renaming, Dcheck_renaming⟩ := T.d_check_renaming
  have Gcheck_renaming : FnOk P w K mg base (L2.CX P w) 4 fcheck_renaming fdcheck_renaming ["before", "after"] (spcheck_renaming K) := okcheck_renaming T Dcheck_renaming
  refine D.F.okX scmoving (fun vs H Q E h => ?_) (fun cdv A outer s H vs Q E hr h => ?_)
  · obtain ⟨v1, v2, rfl, _⟩ := h
    rfl
  · obtain ⟨v1, v2, rfl, hc⟩ := h
    refine ⟨_, (pss_cons (ps_expr (pe_callS Gcheck_renaming hr (by rfl) Dcheck_renaming.g Dcheck_renaming.F.kp Dcheck_renaming.b (fun σ => passAt (takes_of rfl rfl rfl rfl) σ) (pa_cons (pv 0) (pa_cons (pv 1) pa_nil))))
    (pss_one (ps_ret (pe_callTy (r := rTupQ K) call_tupQ (by rfl) T.b_tuple (by decide +kernel) (pa_cons (pe_callB (r := rSorted K) cr_sorted (by rfl) T.b_sorted (by decide +kernel) (pa_cons (pe_lc (own := [("entry", 2), ("now", 3)]) (g := gTup K 2 (gCons (gName 2) (gCons (gName 3) gNil))) (tt := _) rfl scmoving.nd (pi_zpA (K := K) rfl (by rfl) T.b_zip (pa_cons (pv 0) (pa_cons (pv 1) pa_nil)))
      (blkOk_by (own := [("entry", 2), ("now", 3)]) (N := ["before", "after", "entry", "now"]) (sc := defScope smoving) (by decide +kernel)) (fun _ _ _ _ _ => (pg_tup rfl (pgs_cons (pg_name (i := 2) scmoving.nd rfl (.inl rfl)) (pgs_cons (pg_name (i := 3) scmoving.nd rfl (.inl rfl)) pgs_nil)))) (fun _ _ _ _ _ => pts_one (pt_cmpR (r := rIn K true) op_notIn_seq (pv 3) (pe_tup (pa_cons (pv 2) (pa_cons (Rv.pe_k (by rfl) T.k_EMPTY) pa_nil))) (by rfl)))
      (fun _ _ _ _ _ => (pv 3))) pa_nil)) pa_nil))))), ?_⟩
    walk_at "rx"
    refine ⟨v1, v2, rfl, ?_⟩
    rcases hc with ⟨a, b, es, fs, rfl, rfl, r, q⟩ | hc
    · refine .inl ⟨a, b, es, fs, rfl, rfl, r, fun H1 S1 => ?_⟩
      have R := r.rn
      have e12 := r.ia.2.1
      have lf := R.len
      have r1 := r.same S1
      have ha1 := r1.ta
      have hb1 := r1.tb
      have ml : ∀ i, (mvA es fs i).length ≤ i := fun i => by
        have := List.length_filter_le (fun b => !decide (fs.getD b 0 = es.getD b 0) && !decide (fs.getD b 0 = -1)) (List.range i)
        rw [List.length_range] at this
        unfold mvA
        rw [List.length_map]
        exact this
      walk_at "rx"
      refine rd_ZpO ha1 hb1 ?_
      refine lc_acc (walk_zipT (n := es.length) (xs := es.map V.int) (ys := fs.map V.int) (by rw [List.length_map, List.length_map]; omega)) (fun i acc => acc = (mvA es fs i).map V.int) rfl (fun i acc hi e => by
        rw [e, List.length_map]
        have := ml i
        omega) (fun H' S => ⟨(ha1.same S).sq, (hb1.same S).sq⟩) ?_ ?_
      · rintro i x Hx Hy acc Qc R2 hi Sx e ⟨T1, u, w, rfl, nT, rfl, e3, e4⟩ qc rc
        have e5 : (es.map V.int)[i]? = some u := e3
        have e6 : (fs.map V.int)[i]? = some w := e4
        rw [List.getElem?_map, get_at hi] at e5
        rw [List.getElem?_map, get_at (by omega)] at e6
        cases e5
        cases e6
        have S4 := same_new (o := .tup [V.int (es.getD i 0), V.int (fs.getD i 0)]) (Same.refl Hx) nT
        have nx : mvA es fs (i + 1) = mvA es fs i ++ if fs.getD i 0 ∈ [es.getD i 0, -1] then [] else [fs.getD i 0] := by
          unfold mvA
          rw [List.range_succ, List.filter_append, List.map_append]
          congr 1
          by_cases z : fs.getD i 0 ∈ [es.getD i 0, -1]
          · rw [if_pos z, List.filter_cons_of_neg (by simp only [List.mem_cons, List.not_mem_nil, or_false] at z; rw [Bool.and_eq_true, Bool.not_eq_true', Bool.not_eq_true', decide_eq_false_iff_not, decide_eq_false_iff_not]; exact fun k => z.elim k.1 k.2)]; rfl
          · rw [if_neg z, List.filter_cons_of_pos (by simp only [List.mem_cons, List.not_mem_nil, or_false, not_or] at z; rw [Bool.and_eq_true, Bool.not_eq_true', Bool.not_eq_true', decide_eq_false_iff_not, decide_eq_false_iff_not]; exact z)]; rfl
        walk_at "rx"
        refine ⟨rfl, ?_⟩
        walk_at "rx"
        refine rd_newQ (by simp) fun H5 p5 S5 n5 h5 => ?_
        refine rd_ninT h5 rfl rfl ?_
        have hin : inV (V.int (fs.getD i 0)) [V.int (es.getD i 0), V.int (-1)] = decide (fs.getD i 0 ∈ [es.getD i 0, -1]) := inV_ints (ns := [es.getD i 0, -1])
        rw [hin]
        by_cases z : fs.getD i 0 ∈ [es.getD i 0, -1]
        · rw [decide_eq_true z]
          walk_at "rx"
          refine rc _ (S4.trans S5) ?_
          rw [nx, if_pos z, List.append_nil]
          exact e
        · rw [decide_eq_false z]
          walk_at "rx"
          refine qc _ _ (S4.trans S5) ?_
          rw [nx, if_neg z, List.map_append, e]
          rfl
      · intro H2 D acc S2 nD hD e
        have := ml es.length
        rw [e] at hD
        walk_at "rx"
        refine rd_sorted hD (by omega) fun H3 p3 ms S3 n3 h3 pm pw => ?_
        walk_at "rx"
        refine rd_newL fun H4 p4 S4 n4 h4 => q H4 p4 ms (((S1.trans S2).trans S3).trans S4) h4 pm pw
    · exact .inr hc
def sp_law_number (_K : PySem.W.Frag) : Sp := fun vs H Q _ => ∃ i : Int, vs = [.int i] ∧ Q (.bl true) H
set_option maxHeartbeats 4000000 in
theorem ok_law_number (T : Top K mg) {f : Addr} {fd : FuncData} (D : Def K mg "_law_number" s_law_number ["told"] f fd) : FnOk P w K mg base CX0 1 f fd ["told"] (sp_law_number K) := by
  refine D.F.ok sc_law_number (fun vs H Q E h => ?_) (fun cdv A outer s H vs Q E hr h => ?_)
  · obtain ⟨i, rfl, _⟩ := h
    rfl
  · obtain ⟨i, rfl, q⟩ := h
    refine ⟨_, (pss_one (ps_ret (pe_and (pe_callB (r := rIsi K) call_isi (by rfl) T.b_isinstance (by decide +kernel) (pa_cons (pv 0) (pa_cons (pe_bltn (v := .ty "int") (by rfl) T.b_int (by decide +kernel) rfl) pa_nil))) (pe_one (pe_not (pe_callB (r := rIsi K) call_isi (by rfl) T.b_isinstance (by decide +kernel) (pa_cons (pv 0) (pa_cons (pe_bltn (v := .ty "bool") (by rfl) T.b_bool (by decide +kernel) rfl) pa_nil)))))))), ?_⟩
    walk_at "rx"
    exact q
set_option maxHeartbeats 4000000 in
theorem okQ_law_number (T : Top K mg) {f : Addr} {fd : FuncData} (D : Def K mg "_law_number" s_law_number ["told"] f fd) : FnQ P w K mg base 1 f fd ["told"] (sp_law_number K) := by
  refine fn_Q D.F sc_law_number (fun vs H Q E h => ?_) (fun cdv A outer s H vs Q E p hr h => ?_)
  · obtain ⟨i, rfl, _⟩ := h
    rfl
  · obtain ⟨i, rfl, q⟩ := h
    refine ⟨_, (pss_one (ps_ret (pe_and (pe_callB (r := rIsi K) call_isi (by rfl) T.b_isinstance (by decide +kernel) (pa_cons (pv 0) (pa_cons (pe_bltn (v := .ty "int") (by rfl) T.b_int (by decide +kernel) rfl) pa_nil))) (pe_one (pe_not (pe_callB (r := rIsi K) call_isi (by rfl) T.b_isinstance (by decide +kernel) (pa_cons (pv 0) (pa_cons (pe_bltn (v := .ty "bool") (by rfl) T.b_bool (by decide +kernel) rfl) pa_nil)))))))), ?_⟩
    walk_at "rx"
    exact q
def sp_law_is_row (_K : PySem.W.Frag) : Sp := fun vs H Q _ => ∃ (a : Addr) (p : List Nat) (n : Nat), vs = [.ref a, .int (n : Int)] ∧ H a = some (.tup (nvs p)) ∧ p.Nodup ∧ (∀ x ∈ p, x < n) ∧ 2 ≤ p.length ∧ p.length ≤ 12 ∧ ∀ H', Same H H' → Q (.bl true) H'
set_option maxHeartbeats 4000000 in
theorem ok_law_is_row (T : Top K mg) {f : Addr} {fd : FuncData} (D : Def K mg "_law_is_row" s_law_is_row ["row", "blocks"] f fd) : FnOk P w K mg base CX0 2 f fd ["row", "blocks"] (sp_law_is_row K) := by
  obtain ⟨f_law_number, fd_law_number, D_law_number⟩ := T.d__law_number
  have G_law_number : FnOk P w K mg base CX0 1 f_law_number fd_law_number ["told"] (sp_law_number K) := ok_law_number T D_law_number
  refine D.F.ok sc_law_is_row (fun vs H Q E h => ?_) (fun cdv A outer s H vs Q E hr h => ?_)
  · obtain ⟨a, p, n, rfl, _⟩ := h
    rfl
  · obtain ⟨a, p, n, rfl, ha, nd, lt, p2, p12, q⟩ := h
    have hr1 : -100000 ≤ (((nvs p).length : Nat) : Int) ∧ (((nvs p).length : Nat) : Int) ≤ 100000 := by rw [nvs_len]; omega
    refine ⟨_, (pss_cons (ps_if (PW.pt (pw_or (pt_not (pt_val (pe_callB (r := rIsi K) call_isi (by rfl) T.b_isinstance (by decide +kernel) (pa_cons (pv 0) (pa_cons (pe_bltn (v := .ty "tuple") (by rfl) T.b_tuple (by decide +kernel) rfl) pa_nil))))) (pw_or1 (pt_cmpR op_lt (pe_callB (r := rLenQ K) call_lenQ (by rfl) T.b_len PySem.boot_len (pa_cons (pv 0) pa_nil)) pe_int (nomark _))))) (pss_one (ps_ret pe_bl)) pss_nil)
    (pss_cons (ps_for PassesOwn.never rfl (pi_range1 (by rfl) T.b_range (pa_cons (pe_callB (r := rLenQ K) call_lenQ (by rfl) T.b_len PySem.boot_len (pa_cons (pv 0) pa_nil)) pa_nil)) (pg_name (i := 2) sc_law_is_row.nd rfl (.inl rfl)) (pss_one (ps_if (PW.pt (pw_or (pt_not (pt_val (pe_call G_law_number hr (by rfl) D_law_number.g D_law_number.F.kp D_law_number.b .nil pass0 (pa_cons (pe_ix (r := rIxT K) ix_tup (pv 0) (pv 2) (fun _ _ => rfl)) pa_nil)))) (pw_or (pt_not (pt_chain op_le op_lt pe_int (pe_ix (r := rIxT K) ix_tup (pv 0) (pv 2) (fun _ _ => rfl)) (pv 1))) (pw_or1 (pt_cmpR (r := rIn K false) op_in_seq (pe_ix (r := rIxT K) ix_tup (pv 0) (pv 2) (fun _ _ => rfl)) (pe_slice sl_tup (pv 0) po_none (po_some (pv 2))) (by rfl)))))) (pss_one (ps_ret pe_bl)) pss_nil)))
    (pss_one (ps_ret pe_bl)))), ?_⟩
    walk_at "rx"
    rw [decide_eq_false (show ¬ (((nvs p).length : Nat) : Int) < 2 by rw [nvs_len]; omega)]
    walk_at "rx"
    refine fr_rng0 (fun i σ H' => ∃ y, σ = [some (.ref a), some (.int (n : Int)), y] ∧ Same H H') ⟨none, rfl, Same.refl _⟩ ?_ ?_
    · rintro i σ H1 hi ⟨y, rfl, S⟩
      have hi2 : i < p.length := by rw [nvs_len] at hi; omega
      have ha1 := S _ _ ha
      have ax := nvs_atI (l := p) (i := i) (List.getElem?_eq_getElem hi2)
      have l1 := lt _ (List.getElem_mem hi2)
      have nt := nin_take nd hi2
      generalize p[i] = x at *
      walk_at "rx"
      refine ⟨_, rfl, ?_⟩
      walk_at "rx"
      rw [decide_eq_true (show (0 : Int) ≤ (x : Int) by omega)]
      walk_at "rx"
      rw [decide_eq_true (show (x : Int) < (n : Int) by omega)]
      walk_at "rx"
      refine rd_slT ha1 (fun k => by
        have k2 := k.2
        rw [HT.sIx_nat, nvs_len] at k2
        omega) ?_
      refine rd_newL fun H2 c S2 nc hc => ?_
      rw [cutN_to p (by omega)] at hc
      refine rd_inT hc rfl (nvs_flat _) ?_
      rw [nvs_in, decide_eq_false nt]
      walk_at "rx"
      exact ⟨_, rfl, S.trans S2⟩
    · rintro σ H1 ⟨y, rfl, S⟩
      walk_at "rx"
      exact q _ S
def sp_law_is_ring (_K : PySem.W.Frag) : Sp := fun vs H Q _ => ∃ (a b c : Addr) (es fs : List Int) (h : Nat), vs = [.ref a, .ref b, .ref c] ∧ H a = some (.tup (nvs (Fo es fs h))) ∧ TG H b es ∧ TG H c fs ∧ Ren es fs ∧ es.length ≤ 12 ∧ h < es.length ∧ IsR (G es fs) (Fo es fs h) ∧ ∀ H', Same H H' → Q (.bl true) H'
set_option maxHeartbeats 4000000 in
theorem ok_law_is_ring (T : Top K mg) {f : Addr} {fd : FuncData} (D : Def K mg "_law_is_ring" s_law_is_ring ["row", "before", "after"] f fd) : FnOk P w K mg base CX0 1 f fd ["row", "before", "after"] (sp_law_is_ring K) := by
  refine D.F.ok sc_law_is_ring (fun vs H Q E h => ?_) (fun cdv A outer s H vs Q E hr h => ?_)
  · obtain ⟨a, b, c, es, fs, h, rfl, _⟩ := h
    rfl
  · obtain ⟨a, b, c, es, fs, h, rfl, ha, hb, hc, R, e12, hh, ri, q⟩ := h
    obtain ⟨P, _⟩ := fo_p R hh
    obtain ⟨re, rf, rA⟩ := rg_end R hh ri
    have le := R.len
    have pl := P.len
    have p1 : 1 < (Fo es fs h).length := ri.1
    have a0 : atI (nvs (Fo es fs h)) (0 : Int) = some (V.int (h : Int)) := nvs_atI (i := 0) P.hd
    have la := last_at P.ne
    have hr1 : -100000 ≤ (((nvs (Fo es fs h)).length : Nat) : Int) ∧ (((nvs (Fo es fs h)).length : Nat) : Int) ≤ 100000 := by rw [nvs_len]; omega
    have n0 : (((nvs (Fo es fs h)).length : Nat) : Int) ≠ 0 := by rw [nvs_len]; omega
    refine ⟨_, (pss_cons (ps_for PassesOwn.never rfl (pi_range1 (by rfl) T.b_range (pa_cons (pe_callB (r := rLenQ K) call_lenQ (by rfl) T.b_len PySem.boot_len (pa_cons (pv 0) pa_nil)) pa_nil)) (pg_name (i := 3) sc_law_is_ring.nd rfl (.inl rfl)) (pss_cons (ps_set (i := 4) sc_law_is_ring.nd rfl (.inl rfl) (pe_ix (r := rIxT K) ix_tup (pv 1) (pe_ix (r := rIxT K) ix_tup (pv 0) (pe_op op_modN (pe_callTy call_intQ (by rfl) T.b_int (by decide +kernel) (pa_cons (pe_op op_add (pv 3) pe_int) pa_nil)) (pe_callB (r := rLenQ K) call_lenQ (by rfl) T.b_len PySem.boot_len (pa_cons (pv 0) pa_nil))) (fun _ _ => rfl)) (fun _ _ => rfl)))
    (pss_one (ps_if (PW.pt (pw_or (pt_cmpR op_eq (pv 4) (pe_un un_neg pe_int) (nomark _)) (pw_or1 (pt_cmpR op_ne (pe_ix (r := rIxT K) ix_tup (pv 2) (pe_ix (r := rIxT K) ix_tup (pv 0) (pv 3) (fun _ _ => rfl)) (fun _ _ => rfl)) (pv 4) (nomark _))))) (pss_one (ps_ret pe_bl)) pss_nil))))
    (pss_one (ps_ret (pe_cmpR op_eq (pe_ix (r := rIxT K) ix_tup (pv 0) pe_int (fun _ _ => rfl)) (pe_callB (r := rMinT) (cr_minT rfl (by exact hr.units)) (by rfl) T.b_min (by decide +kernel) (pa_cons (pv 0) pa_nil)) (nomark _))))), ?_⟩
    walk_at "rx"
    refine fr_rng0 (fun i σ H' => ∃ y y2, σ = [some (.ref a), some (.ref b), some (.ref c), y, y2] ∧ H' = H) ⟨none, none, rfl, rfl⟩ ?_ ?_
    · rintro i σ H1 hi ⟨y, y2, rfl, rfl⟩
      have hi2 : i < (Fo es fs h).length := by rw [nvs_len] at hi; omega
      obtain ⟨z, ez, A⟩ : ∃ z : Nat, atI (nvs (Fo es fs h)) (((i : Int) + 1).fmod (((nvs (Fo es fs h)).length : Nat) : Int)) = some (V.int (z : Int)) ∧ Ar es fs (Fo es fs h)[i] z := by
        rw [nvs_len, Int.fmod_eq_emod_of_nonneg _ (by omega)]
        by_cases k : i + 1 < (Fo es fs h).length
        · rw [Int.emod_eq_of_lt (by omega) (by omega), show (i : Int) + 1 = ((i + 1 : Nat) : Int) by omega]
          exact ⟨_, nvs_atI (List.getElem?_eq_getElem k), way_ar R P (List.getElem?_eq_getElem hi2) (List.getElem?_eq_getElem k)⟩
        · rw [show (i : Int) + 1 = (((Fo es fs h).length : Nat) : Int) by omega, Int.emod_self]
          refine ⟨h, a0, ?_⟩
          rw [show (Fo es fs h).length - 1 = i by omega, List.getElem?_eq_getElem hi2] at la
          rw [Option.some.inj la]
          exact rA
      have ax := nvs_atI (l := Fo es fs h) (i := i) (List.getElem?_eq_getElem hi2)
      generalize (Fo es fs h)[i] = x at *
      have cx : atI (fs.map V.int) (x : Int) = some (.int (fs.getD x 0)) := atI_ints (by omega) (by have := A.l1; omega)
      have bz : atI (es.map V.int) (z : Int) = some (.int (es.getD z 0)) := atI_ints (by omega) (by have := A.l2; omega)
      walk_at "rx"
      rw [decide_eq_false (show ¬ V.int (es.getD z 0) = V.int (-1) from fun w => A.fu (by rw [A.eq]; exact V.int.inj w))]
      walk_at "rx"
      rw [decide_eq_true (show V.int (fs.getD x 0) = V.int (es.getD z 0) from by rw [A.eq])]
      walk_at "rx"
      exact ⟨_, _, rfl, rfl⟩
    · rintro σ H1 ⟨y, y2, rfl, rfl⟩
      walk_at "rx"
      refine rd_minT (ns := niz (Fo es fs h)) ha (by rw [niz_len]; omega) fun m hm hle => ?_
      obtain ⟨x, rfl, hx⟩ := niz_of hm
      have k1 := ri.2.2 x hx
      rw [P.headD] at k1
      have k2 := hle _ (mem_niz.mpr (List.mem_of_getElem? P.hd))
      walk_at "rx"
      rw [decide_eq_true (show V.int (h : Int) = V.int (x : Int) from by rw [show h = x by omega])]
      exact q _ (Same.refl _)
def sp_law_is_chain (_K : PySem.W.Frag) : Sp := fun vs H Q _ => ∃ (a b c : Addr) (es fs : List Int) (h : Nat), vs = [.ref a, .ref b, .ref c] ∧ H a = some (.tup (nvs (Fo es fs h))) ∧ TG H b es ∧ TG H c fs ∧ Ren es fs ∧ es.length ≤ 12 ∧ h < es.length ∧ Ch es fs h ∧ ∀ H', Same H H' → Q (.bl true) H'
set_option maxHeartbeats 4000000 in
theorem ok_law_is_chain (T : Top K mg) {f : Addr} {fd : FuncData} (D : Def K mg "_law_is_chain" s_law_is_chain ["row", "before", "after"] f fd) : FnOk P w K mg base CX0 1 f fd ["row", "before", "after"] (sp_law_is_chain K) := by
  refine D.F.ok sc_law_is_chain (fun vs H Q E h => ?_) (fun cdv A outer s H vs Q E hr h => ?_)
  · obtain ⟨a, b, c, es, fs, h, rfl, _⟩ := h
    rfl
  · obtain ⟨a, b, c, es, fs, h, rfl, ha, hb, hc, R, e12, hh, ch, q⟩ := h
    obtain ⟨P, _⟩ := fo_p R hh
    obtain ⟨ce, c2⟩ := ch_end R hh ch
    have le := R.len
    have pl := P.len
    have a0 : atI (nvs (Fo es fs h)) (0 : Int) = some (V.int (h : Int)) := nvs_atI (i := 0) P.hd
    have la := last_at P.ne
    have lm := P.lt _ (last_mem P.ne)
    have al : atI (nvs (Fo es fs h)) ((((nvs (Fo es fs h)).length : Nat) : Int) - 1) = some (V.int (((Fo es fs h).getLastD 0 : Nat) : Int)) := by
      rw [show (((nvs (Fo es fs h)).length : Nat) : Int) - 1 = (((Fo es fs h).length - 1 : Nat) : Int) by rw [nvs_len]; omega]
      exact nvs_atI la
    have b0 : atI (es.map V.int) (h : Int) = some (.int (es.getD h 0)) := atI_ints (by omega) (by omega)
    have cl : atI (fs.map V.int) (((Fo es fs h).getLastD 0 : Nat) : Int) = some (.int (fs.getD ((Fo es fs h).getLastD 0) 0)) := atI_ints (by omega) (by omega)
    have hr1 : -100000 ≤ (((nvs (Fo es fs h)).length : Nat) : Int) - 1 ∧ (((nvs (Fo es fs h)).length : Nat) : Int) - 1 ≤ 100000 := by rw [nvs_len]; omega
    refine ⟨_, (pss_cons (ps_set (i := 3) sc_law_is_chain.nd rfl (.inl rfl) (pe_op op_sub (pe_callB (r := rLenQ K) call_lenQ (by rfl) T.b_len PySem.boot_len (pa_cons (pv 0) pa_nil)) pe_int))
    (pss_cons (ps_if (PW.pt (pw_or (pt_cmpR op_ne (pe_ix (r := rIxT K) ix_tup (pv 1) (pe_ix (r := rIxT K) ix_tup (pv 0) pe_int (fun _ _ => rfl)) (fun _ _ => rfl)) (pe_un un_neg pe_int) (nomark _)) (pw_or1 (pt_cmpR op_ne (pe_ix (r := rIxT K) ix_tup (pv 2) (pe_ix (r := rIxT K) ix_tup (pv 0) (pv 3) (fun _ _ => rfl)) (fun _ _ => rfl)) (pe_un un_neg pe_int) (nomark _))))) (pss_one (ps_ret pe_bl)) pss_nil)
    (pss_cons (ps_for PassesOwn.never rfl (pi_range1 (by rfl) T.b_range (pa_cons (pv 3) pa_nil)) (pg_name (i := 4) sc_law_is_chain.nd rfl (.inl rfl)) (pss_one (ps_if (PW.pt (pw_or (pt_cmpR op_eq (pe_ix (r := rIxT K) ix_tup (pv 2) (pe_ix (r := rIxT K) ix_tup (pv 0) (pv 4) (fun _ _ => rfl)) (fun _ _ => rfl)) (pe_un un_neg pe_int) (nomark _)) (pw_or1 (pt_cmpR op_ne (pe_ix (r := rIxT K) ix_tup (pv 2) (pe_ix (r := rIxT K) ix_tup (pv 0) (pv 4) (fun _ _ => rfl)) (fun _ _ => rfl)) (pe_ix (r := rIxT K) ix_tup (pv 1) (pe_ix (r := rIxT K) ix_tup (pv 0) (pe_op op_add (pv 4) pe_int) (fun _ _ => rfl)) (fun _ _ => rfl)) (nomark _))))) (pss_one (ps_ret pe_bl)) pss_nil)))
    (pss_one (ps_ret pe_bl))))), ?_⟩
    walk_at "rx"
    rw [decide_eq_true (show V.int (es.getD h 0) = V.int (-1) from by rw [ch.1])]
    walk_at "rx"
    rw [decide_eq_true (show V.int (fs.getD ((Fo es fs h).getLastD 0) 0) = V.int (-1) from by rw [ce])]
    walk_at "rx"
    refine fr_rng0 (fun i σ H' => ∃ y, σ = [some (.ref a), some (.ref b), some (.ref c), some (.int ((((nvs (Fo es fs h)).length : Nat) : Int) - 1)), y] ∧ H' = H) ⟨none, rfl, rfl⟩ ?_ ?_
    · rintro i σ H1 hi ⟨y, rfl, rfl⟩
      have hi2 : i + 1 < (Fo es fs h).length := by rw [nvs_len] at hi; omega
      have A := way_ar R P (List.getElem?_eq_getElem (show i < (Fo es fs h).length by omega)) (List.getElem?_eq_getElem hi2)
      have ax := nvs_atI (l := Fo es fs h) (i := i) (List.getElem?_eq_getElem (by omega))
      have ay : atI (nvs (Fo es fs h)) ((i : Int) + 1) = some (V.int (((Fo es fs h)[i + 1] : Nat) : Int)) := by
        rw [show (i : Int) + 1 = ((i + 1 : Nat) : Int) by omega]
        exact nvs_atI (List.getElem?_eq_getElem hi2)
      generalize (Fo es fs h)[i] = x at *
      generalize (Fo es fs h)[i + 1] = z at *
      have cx : atI (fs.map V.int) (x : Int) = some (.int (fs.getD x 0)) := atI_ints (by omega) (by have := A.l1; omega)
      have bz : atI (es.map V.int) (z : Int) = some (.int (es.getD z 0)) := atI_ints (by omega) (by have := A.l2; omega)
      walk_at "rx"
      rw [decide_eq_false (show ¬ V.int (fs.getD x 0) = V.int (-1) from fun w => A.fu (V.int.inj w))]
      walk_at "rx"
      rw [decide_eq_true (show V.int (fs.getD x 0) = V.int (es.getD z 0) from by rw [A.eq])]
      walk_at "rx"
      exact ⟨_, rfl, rfl⟩
    · rintro σ H1 ⟨y, rfl, rfl⟩
      walk_at "rx"
      exact q _ (Same.refl _)
def sp_law_rows_hold (_K : PySem.W.Frag) : Sp := fun vs H Q _ => ∃ (l b c : Addr) (es fs : List Int) (bs : List Addr) (hs : List Nat) (cd : Bool), vs = [.ref l, .ref b, .ref c, .bl cd] ∧ H l = some (.lst (bs.map V.ref)) ∧ NRows H bs (hs.map (Fo es fs)) ∧ hs.length ≤ 12 ∧ hs.Pairwise (· < ·) ∧ (∀ h ∈ hs, h < es.length ∧ if cd = true then IsR (G es fs) (Fo es fs h) else Ch es fs h) ∧ TG H b es ∧ TG H c fs ∧ Ren es fs ∧ es.length ≤ 12 ∧ ∀ H', Same H H' → Q (.bl true) H'
set_option maxHeartbeats 4000000 in
theorem ok_law_rows_hold (T : Top K mg) {f : Addr} {fd : FuncData} (D : Def K mg "_law_rows_hold" s_law_rows_hold ["told", "before", "after", "closed"] f fd) : FnOk P w K mg base CX0 3 f fd ["told", "before", "after", "closed"] (sp_law_rows_hold K) := by
  obtain ⟨f_law_is_row, fd_law_is_row, D_law_is_row⟩ := T.d__law_is_row
  have G_law_is_row : FnOk P w K mg base CX0 2 f_law_is_row fd_law_is_row ["row", "blocks"] (sp_law_is_row K) := ok_law_is_row T D_law_is_row
  obtain ⟨f_law_is_ring, fd_law_is_ring, D_law_is_ring⟩ := T.d__law_is_ring
  have G_law_is_ring : FnOk P w K mg base CX0 1 f_law_is_ring fd_law_is_ring ["row", "before", "after"] (sp_law_is_ring K) := ok_law_is_ring T D_law_is_ring
  obtain ⟨f_law_is_chain, fd_law_is_chain, D_law_is_chain⟩ := T.d__law_is_chain
  have G_law_is_chain : FnOk P w K mg base CX0 1 f_law_is_chain fd_law_is_chain ["row", "before", "after"] (sp_law_is_chain K) := ok_law_is_chain T D_law_is_chain
  refine D.F.ok sc_law_rows_hold (fun vs H Q E h => ?_) (fun cdv A outer s H vs Q E hr h => ?_)
  · obtain ⟨l, b, c, es, fs, bs, hs, cd, rfl, _⟩ := h
    rfl
  · obtain ⟨l, b, c, es, fs, bs, hs, cd, rfl, hl, tb, h12, pw, kind, hb, hc, R, e12, q⟩ := h
    have lb := NRows.len tb
    rw [List.length_map] at lb
    have hr1 : -100000 ≤ (((bs.map V.ref).length : Nat) : Int) ∧ (((bs.map V.ref).length : Nat) : Int) ≤ 100000 := by rw [List.length_map]; omega
    have row : ∀ (H1 : Hp) (j : Nat), Same H H1 → ∀ hj : j < hs.length, ∃ p, atI (bs.map V.ref) (j : Int) = some (.ref p) ∧ H1 p = some (.tup (nvs (Fo es fs hs[j]))) := fun H1 j S hj => by
      obtain ⟨p, e1, e2⟩ := NRows.at (tb.same S) (i := j) (p := Fo es fs hs[j]) (by rw [List.getElem?_map, List.getElem?_eq_getElem hj]; rfl)
      exact ⟨p, atI_nat (by rw [List.getElem?_map, e1]; rfl), e2⟩
    refine ⟨_, (pss_cons (ps_if (pt_not (pt_val (pe_callB (r := rIsi K) call_isi (by rfl) T.b_isinstance (by decide +kernel) (pa_cons (pv 0) (pa_cons (pe_bltn (v := .ty "list") (by rfl) T.b_list (by decide +kernel) rfl) pa_nil))))) (pss_one (ps_ret pe_bl)) pss_nil)
    (pss_cons (ps_for PassesOwn.never rfl (pi_range1 (by rfl) T.b_range (pa_cons (pe_callB (r := rLenQ K) call_lenQ (by rfl) T.b_len PySem.boot_len (pa_cons (pv 0) pa_nil)) pa_nil)) (pg_name (i := 4) sc_law_rows_hold.nd rfl (.inl rfl)) (pss_cons (ps_if (pt_not (pt_val (pe_call G_law_is_row hr (by rfl) D_law_is_row.g D_law_is_row.F.kp D_law_is_row.b .nil pass0 (pa_cons (pe_ix (r := rIxL K) ix_list (pv 0) (pv 4) (fun _ _ => rfl)) (pa_cons (pe_callB (r := rLenQ K) call_lenQ (by rfl) T.b_len PySem.boot_len (pa_cons (pv 1) pa_nil)) pa_nil))))) (pss_one (ps_ret pe_bl)) pss_nil)
    (pss_cons (ps_if (PW.pt (pw_and (pt_cmpR op_gt (pv 4) pe_int (nomark _)) (pw_and1 (pt_not (pt_cmpR (r := rLtT K) (op_ltT (Nat.lt_of_le_of_lt (Nat.le_add_right _ 64) hr.units)) (pe_ix (r := rIxL K) ix_list (pv 0) (pe_op op_sub (pv 4) pe_int) (fun _ _ => rfl)) (pe_ix (r := rIxL K) ix_list (pv 0) (pv 4) (fun _ _ => rfl)) (nomark _)))))) (pss_one (ps_ret pe_bl)) pss_nil)
    (pss_cons (ps_if (PW.pt (pw_and (pt_val (pv 3)) (pw_and1 (pt_not (pt_val (pe_call G_law_is_ring (hr.mono (by decide)) (by rfl) D_law_is_ring.g D_law_is_ring.F.kp D_law_is_ring.b .nil pass0 (pa_cons (pe_ix (r := rIxL K) ix_list (pv 0) (pv 4) (fun _ _ => rfl)) (pa_cons (pv 1) (pa_cons (pv 2) pa_nil))))))))) (pss_one (ps_ret pe_bl)) pss_nil)
    (pss_one (ps_if (PW.pt (pw_and (pt_not (pt_val (pv 3))) (pw_and1 (pt_not (pt_val (pe_call G_law_is_chain (hr.mono (by decide)) (by rfl) D_law_is_chain.g D_law_is_chain.F.kp D_law_is_chain.b .nil pass0 (pa_cons (pe_ix (r := rIxL K) ix_list (pv 0) (pv 4) (fun _ _ => rfl)) (pa_cons (pv 1) (pa_cons (pv 2) pa_nil))))))))) (pss_one (ps_ret pe_bl)) pss_nil))))))
    (pss_one (ps_ret pe_bl)))), ?_⟩
    walk_at "rx"
    refine fr_rng0 (fun i σ H' => ∃ y, σ = [some (.ref l), some (.ref b), some (.ref c), some (.bl cd), y] ∧ Same H H') ⟨none, rfl, Same.refl _⟩ ?_ ?_
    · rintro i σ H1 hi ⟨y, rfl, S⟩
      have hi2 : i < hs.length := by rw [List.length_map] at hi; omega
      obtain ⟨p, ep, hp⟩ := row H1 i S hi2
      obtain ⟨k1, k2⟩ := kind _ (List.getElem_mem hi2)
      obtain ⟨P, _⟩ := fo_p R k1
      have p2 : 1 < (Fo es fs hs[i]).length := by
        cases cd with
        | true => exact k2.1
        | false => exact (ch_end R k1 k2).2
      have hl1 := S _ _ hl
      have hb1 := hb.same S
      walk_at "rx"
      refine ⟨p, _, es.length, rfl, hp, P.nd, P.lt, by omega, by have := P.len; omega, fun H2 S2 => ?_⟩
      have S02 := S.trans S2
      have hl2 := S02 _ _ hl
      have hb2 := hb.same S02
      have hc2 := hc.same S02
      have hp2 := S2 _ _ hp
      walk_at "rx"
      by_cases z : 0 < i
      · rw [decide_eq_true (show (0 : Int) < (i : Int) by omega)]
        obtain ⟨p', ep', hp'⟩ := row H2 (i - 1) S02 (by omega)
        have ep2 : atI (bs.map V.ref) ((i : Int) - 1) = some (.ref p') := by
          rw [show (i : Int) - 1 = ((i - 1 : Nat) : Int) by omega]
          exact ep'
        have lt := List.pairwise_iff_getElem.mp pw (i - 1) i (by omega) hi2 (by omega)
        have k1' := (kind _ (List.getElem_mem (show i - 1 < hs.length by omega))).1
        have lx := lt_head (fo_p R k1').1.hd P.hd lt
        walk_at "rx"
        refine ⟨p', p, _, _, rfl, rfl, SqT.of hp', SqT.of hp2, ?_⟩
        rw [lx]
        cases cd with
        | true =>
          walk_at "rx"
          refine ⟨p, b, c, es, fs, hs[i], rfl, hp2, hb2, hc2, R, e12, k1, k2, fun H3 S3 => ?_⟩
          walk_at "rx"
          exact ⟨_, rfl, S02.trans S3⟩
        | false =>
          walk_at "rx"
          refine ⟨p, b, c, es, fs, hs[i], rfl, hp2, hb2, hc2, R, e12, k1, k2, fun H3 S3 => ?_⟩
          walk_at "rx"
          exact ⟨_, rfl, S02.trans S3⟩
      · rw [decide_eq_false (show ¬ (0 : Int) < (i : Int) by omega)]
        cases cd with
        | true =>
          walk_at "rx"
          refine ⟨p, b, c, es, fs, hs[i], rfl, hp2, hb2, hc2, R, e12, k1, k2, fun H3 S3 => ?_⟩
          walk_at "rx"
          exact ⟨_, rfl, S02.trans S3⟩
        | false =>
          walk_at "rx"
          refine ⟨p, b, c, es, fs, hs[i], rfl, hp2, hb2, hc2, R, e12, k1, k2, fun H3 S3 => ?_⟩
          walk_at "rx"
          exact ⟨_, rfl, S02.trans S3⟩
    · rintro σ H1 ⟨y, rfl, S⟩
      walk_at "rx"
      exact q _ S
def sp_law_pair_holds (_K : PySem.W.Frag) : Sp := fun vs H Q _ => ∃ (a b : Addr) (es fs : List Int), vs = [.ref a, .ref b] ∧ RP H a b es fs ∧ ∀ H', Same H H' → Q (.bl true) H'
set_option maxHeartbeats 4000000 in
theorem ok_law_pair_holds (T : Top K mg) {f : Addr} {fd : FuncData} (D : Def K mg "_law_pair_holds" s_law_pair_holds ["before", "after"] f fd) : FnOk P w K mg base CX0 7 f fd ["before", "after"] (sp_law_pair_holds K) := by
  obtain ⟨fchains, fdchains, Dchains⟩ := T.d_chains
  have Gchains : FnOk P w K mg base (L2.CX P w) 6 fchains fdchains ["before", "after"] (spchains K) := okchains T Dchains
  obtain ⟨frings, fdrings, Drings⟩ := T.d_rings
  have Grings : FnOk P w K mg base (L2.CX P w) 6 frings fdrings ["before", "after"] (springs K) := okrings T Drings
  obtain ⟨fmoving, fdmoving, Dmoving⟩ := T.d_moving
  have Gmoving : FnOk P w K mg base (L2.CX P w) 5 fmoving fdmoving ["before", "after"] (spmoving K) := okmoving T Dmoving
  obtain ⟨fcheck_renaming, fdcheck_renaming, Dcheck_renaming⟩ := T.d_check_renaming
  have Gcheck_renaming : FnOk P w K mg base (L2.CX P w) 4 fcheck_renaming fdcheck_renaming ["before", "after"] (spcheck_renaming K) := okcheck_renaming T Dcheck_renaming
  obtain ⟨f_law_rows_hold, fd_law_rows_hold, D_law_rows_hold⟩ := T.d__law_rows_hold
  have G_law_rows_hold : FnOk P w K mg base CX0 3 f_law_rows_hold fd_law_rows_hold ["told", "before", "after", "closed"] (sp_law_rows_hold K) := ok_law_rows_hold T D_law_rows_hold
  obtain ⟨f_law_number, fd_law_number, D_law_number⟩ := T.d__law_number
  have G_law_number : FnOk P w K mg base CX0 1 f_law_number fd_law_number ["told"] (sp_law_number K) := ok_law_number T D_law_number
  refine D.F.ok sc_law_pair_holds (fun vs H Q E h => ?_) (fun cdv A outer s H vs Q E hr h => ?_)
  · obtain ⟨a, b, es, fs, rfl, _⟩ := h
    rfl
  · obtain ⟨a, b, es, fs, rfl, r, q⟩ := h
    have R := r.rn
    have e12 := r.ia.2.1
    have le := R.len
    refine ⟨_, (pss_cons (ps_if (pt_cmpR op_notNQ (pe_call Gcheck_renaming (hr.mono (by decide)) (by rfl) Dcheck_renaming.g Dcheck_renaming.F.kp Dcheck_renaming.b .nil passL (pa_cons (pv 0) (pa_cons (pv 1) pa_nil))) pe_non (nomark _)) (pss_one (ps_ret pe_bl)) pss_nil)
    (pss_cons (ps_set (i := 2) sc_law_pair_holds.nd rfl (.inl rfl) (pe_call Gchains hr (by rfl) Dchains.g Dchains.F.kp Dchains.b .nil passL (pa_cons (pv 0) (pa_cons (pv 1) pa_nil))))
    (pss_cons (ps_set (i := 3) sc_law_pair_holds.nd rfl (.inl rfl) (pe_call Grings hr (by rfl) Drings.g Drings.F.kp Drings.b .nil passL (pa_cons (pv 0) (pa_cons (pv 1) pa_nil))))
    (pss_cons (ps_if (pt_not (pt_val (pe_call G_law_rows_hold (hr.mono (by decide)) (by rfl) D_law_rows_hold.g D_law_rows_hold.F.kp D_law_rows_hold.b .nil pass0 (pa_cons (pv 2) (pa_cons (pv 0) (pa_cons (pv 1) (pa_cons pe_bl pa_nil))))))) (pss_one (ps_ret pe_bl)) pss_nil)
    (pss_cons (ps_if (pt_not (pt_val (pe_call G_law_rows_hold (hr.mono (by decide)) (by rfl) D_law_rows_hold.g D_law_rows_hold.F.kp D_law_rows_hold.b .nil pass0 (pa_cons (pv 3) (pa_cons (pv 0) (pa_cons (pv 1) (pa_cons pe_bl pa_nil))))))) (pss_one (ps_ret pe_bl)) pss_nil)
    (pss_cons (ps_set (i := 4) sc_law_pair_holds.nd rfl (.inl rfl) (pe_lst pa_nil))
    (pss_cons (ps_for PassesOwn.never rfl (pi_list (pe_op op_cat (pv 2) (pv 3))) (pg_name (i := 5) sc_law_pair_holds.nd rfl (.inl rfl)) (pss_one (ps_set (i := 4) sc_law_pair_holds.nd rfl (.inl rfl) (pe_op op_cat (pv 4) (pe_callTy (r := rLstQ K) call_lstQ (by rfl) T.b_list (by decide +kernel) (pa_cons (pv 5) pa_nil))))))
    (pss_cons (ps_if (pt_cmpR (op_neD hr.units) (pe_callB (r := rSorted K) cr_sorted (by rfl) T.b_sorted (by decide +kernel) (pa_cons (pv 4) pa_nil)) (pe_lc (own := [("k", 9)]) (g := gName 9) (tt := _) rfl sc_law_pair_holds.nd (pi_range1 (by rfl) T.b_range (pa_cons (pe_callB (r := rLenQ K) call_lenQ (by rfl) T.b_len PySem.boot_len (pa_cons (pv 0) pa_nil)) pa_nil))
      (blkOk_by (own := [("k", 9)]) (N := ["before", "after", "lines", "loops", "found", "row", "told", "due", "value", "k"]) (sc := defScope s_law_pair_holds) (by decide +kernel)) (fun _ _ _ _ _ => (pg_name (i := 9) sc_law_pair_holds.nd rfl (.inl rfl))) (fun _ _ _ _ _ => pts_one (pt_cmpR op_ne (pe_ix (r := rIxT K) ix_tup (pv 0) (pv 9) (fun _ _ => rfl)) (pe_ix (r := rIxT K) ix_tup (pv 1) (pv 9) (fun _ _ => rfl)) (nomark _)))
      (fun _ _ _ _ _ => (pv 9))) (nomark _)) (pss_one (ps_ret pe_bl)) pss_nil)
    (pss_cons (ps_set (i := 6) sc_law_pair_holds.nd rfl (.inl rfl) (pe_call Gmoving (hr.mono (by decide)) (by rfl) Dmoving.g Dmoving.F.kp Dmoving.b .nil passL (pa_cons (pv 0) (pa_cons (pv 1) pa_nil))))
    (pss_cons (ps_if (PW.pt (pw_or (pt_not (pt_val (pe_callB (r := rIsi K) call_isi (by rfl) T.b_isinstance (by decide +kernel) (pa_cons (pv 6) (pa_cons (pe_bltn (v := .ty "tuple") (by rfl) T.b_tuple (by decide +kernel) rfl) pa_nil))))) (pw_or1 (pt_not (pt_val (pe_callB (r := rAll K) (cr_all rfl) (by rfl) T.b_all (by decide +kernel) (pa_cons (pe_lc (own := [("value", 8)]) (g := gName 8) (tt := tYes) rfl sc_law_pair_holds.nd (pi_tup (pv 6))
      (blkOk_by (own := [("value", 8)]) (N := ["before", "after", "lines", "loops", "found", "row", "told", "due", "value", "k"]) (sc := defScope s_law_pair_holds) (by decide +kernel)) (fun _ _ _ _ _ => (pg_name (i := 8) sc_law_pair_holds.nd rfl (.inl rfl))) (fun _ _ _ _ _ => pts_nil)
      (fun _ _ _ _ _ => (pe_call G_law_number (hr.mono (by decide)) (by rfl) D_law_number.g D_law_number.F.kp D_law_number.b .nil pass0 (pa_cons (pv 8) pa_nil)))) pa_nil))))))) (pss_one (ps_ret pe_bl)) pss_nil)
    (pss_cons (ps_setLc (i := 7) (own := [("value", 8)]) (g := gName 8) (tt := _) rfl sc_law_pair_holds.nd rfl rfl (sw_true rfl rfl rfl (by decide +kernel)) (pi_tup (pv 0))
      (blkOk_by (own := [("value", 8)]) (N := ["before", "after", "lines", "loops", "found", "row", "told", "due", "value", "k"]) (sc := defScope s_law_pair_holds) (by decide +kernel)) (fun _ _ _ _ _ => (pg_name (i := 8) sc_law_pair_holds.nd rfl (.inl rfl))) (fun _ _ _ _ _ => pts_one (PW.pt (pw_and (pt_cmpR op_ne (pv 8) (pe_un un_neg pe_int) (nomark _)) (pw_and1 (pt_cmpR op_ne (pe_tix (pv 0) (pv 8)) (pe_tix (pv 1) (pv 8)) (nomark _))))))
      (fun _ _ _ _ _ => (pv 8)))
    (pss_one (ps_ret (pe_cmpR (op_eqD hr.units) (pe_callTy (r := rLstQ K) call_lstQ (by rfl) T.b_list (by decide +kernel) (pa_cons (pv 6) pa_nil)) (pe_callB (r := rSorted K) cr_sorted (by rfl) T.b_sorted (by decide +kernel) (pa_cons (pv 7) pa_nil)) (nomark _))))))))))))))), ?_⟩
    walk_at "rx"
    refine ⟨_, _, rfl, .inl ⟨a, b, es, fs, rfl, rfl, r, fun H1 S1 => ?_⟩⟩
    have r1 := r.same S1
    walk_at "rx"
    refine rd_notNQ ?_
    rw [decide_eq_true (show V.non = V.non from rfl)]
    walk_at "rx"
    refine ⟨_, _, rfl, .inl ⟨a, b, es, fs, rfl, rfl, r1, fun H2 l1 bs1 S2 hl1 t1 => ?_⟩⟩
    have r2 := r1.same S2
    walk_at "rx"
    refine ⟨_, _, rfl, .inl ⟨a, b, es, fs, rfl, rfl, r2, fun H3 l2 bs2 S3 hl2 t2 => ?_⟩⟩
    have r3 := r2.same S3
    have hl13 := S3 _ _ hl1
    have t13 := t1.same S3
    have ls1 : (starts es fs es.length).length ≤ es.length := by
      have := List.length_filter_le (fun b => decide (Ch es fs b)) (List.range es.length)
      rw [List.length_range] at this
      exact this
    have ls2 : (tops es fs es.length).length ≤ es.length := by
      have := List.length_filter_le (fun b => decide (IsR (G es fs) (Fo es fs b))) (List.range es.length)
      rw [List.length_range] at this
      exact this
    walk_at "rx"
    refine ⟨l1, a, b, es, fs, bs1, starts es fs es.length, false, rfl, hl13, t13, by omega, pw_range _ _, fun h hh => mem_starts.mp hh, r3.ta, r3.tb, R, e12, fun H4 S4 => ?_⟩
    have r4 := r3.same S4
    have hl14 := S4 _ _ hl13
    have t14 := t13.same S4
    have hl24 := S4 _ _ hl2
    have t24 := t2.same S4
    walk_at "rx"
    refine ⟨l2, a, b, es, fs, bs2, tops es fs es.length, true, rfl, hl24, t24, by omega, pw_range _ _, fun h hh => mem_tops.mp hh, r4.ta, r4.tb, R, e12, fun H5 S5 => ?_⟩
    have r5 := r4.same S5
    have hl15 := S5 _ _ hl14
    have t15 := t14.same S5
    have hl25 := S5 _ _ hl24
    have t25 := t24.same S5
    walk_at "rx"
    refine rd_newQ (by simp) fun H6 F S6 nF hF => ?_
    have hl16 := S6 _ _ hl15
    have hl26 := S6 _ _ hl25
    have lb1 := NRows.len t1
    have lb2 := NRows.len t2
    rw [List.length_map] at lb1 lb2
    walk_at "rx"
    refine rd_catLN hl16 hl26 (by rw [List.length_map, List.length_map]; omega) ?_
    refine rd_newL fun H7 C S7 nC hC => ?_
    rw [← List.map_append] at hC
    have t7 : NRows H7 (bs1 ++ bs2) ((heads es fs).map (Fo es fs)) := by
      unfold heads NRows
      rw [List.map_append, List.map_append]
      exact ((t15.same S6).same S7).cat ((t25.same S6).same S7)
    have S07 := (((((S1.trans S2).trans S3).trans S4).trans S5).trans S6).trans S7
    have hF7 := S7 _ _ hF
    have hl := heads_len es fs
    have rl := rows_len_le R
    have lbb : (bs1 ++ bs2).length = (heads es fs).length := by rw [NRows.len t7, List.length_map]
    walk_at "rx"
    refine fr_it (walk_list (xs := (bs1 ++ bs2).map V.ref)) (fun i σ H' => ∃ (F : Addr) (y5 : Option V), σ = [some (.ref a), some (.ref b), some (.ref l1), some (.ref l2), some (.ref F), y5, none, none, none, none] ∧ Same H7 H' ∧ H' F = some (.lst (nvs (((heads es fs).take i).flatMap (Fo es fs))))) ⟨F, none, rfl, Same.refl _, hF7⟩ (fun i σ H' _ p => ?_) ?_ ?_
    · obtain ⟨_, _, _, S, _⟩ := p
      exact SqL.of (S _ _ hC)
    · rintro i x σ Ha Hb hi ⟨F, y5, rfl, Sa, hFa⟩ ⟨eH, ex⟩
      subst eH
      rw [List.length_map, lbb] at hi
      obtain ⟨p, e1, e2⟩ := NRows.at (t7.same Sa) (i := i) (p := Fo es fs (heads es fs)[i]) (by rw [List.getElem?_map, List.getElem?_eq_getElem hi]; rfl)
      rw [List.getElem?_map, e1] at ex
      cases ex
      walk_at "rx"
      refine rd_newL fun Hc L Sc nL hL => ?_
      have hFc := Sc _ _ hFa
      have ft := flat_take (Fo es fs) (heads es fs) hi
      have fl := flat_le (Fo es fs) (heads es fs) (i + 1)
      have fl2 : ((heads es fs).flatMap (Fo es fs)).length ≤ 12 := by unfold allRows at rl; omega
      rw [ft, List.length_append] at fl
      refine rd_catLN hFc hL (by rw [nvs_len, nvs_len]; omega) ?_
      refine rd_newL fun Hd F2 Sd nF2 hF2 => ?_
      walk_at "rx"
      refine ⟨F2, _, rfl, (Sa.trans Sc).trans Sd, ?_⟩
      rw [hF2, ft, nvs_app]
    rintro σ H8 ⟨F, y5, rfl, S8, hF8⟩
    rw [List.length_map, lbb, List.take_length] at hF8
    have hF8 : H8 F = some (.lst ((niz (allRows es fs)).map V.int)) := hF8
    have r8 := (r.same S07).same S8
    have ha8 := r8.ta
    have hb8 := r8.tb
    have hr1 : -100000 ≤ ((es.length : Nat) : Int) ∧ ((es.length : Nat) : Int) ≤ 100000 := by omega
    walk_at "rx"
    refine rd_sorted hF8 (by rw [niz_len]; omega) fun H9 p9 ms S9 n9 h9 pm9 pw9 => ?_
    have ha9 := ha8.same S9
    have hb9 := hb8.same S9
    walk_at "rx"
    rw [show (((es.length : Nat) : Int)).toNat = es.length by omega]
    refine lc_acc walk_rng (fun i acc => acc = nvs (chgC es fs i)) rfl (fun i acc hi e => by have := chgC_len es fs i; rw [e, nvs_len]; omega) (fun _ _ => trivial) ?_ ?_
    · rintro i x Hx Hy acc Qc R2 hi Sx e ⟨rfl, rfl⟩ qc rc
      have hax := ha9.same Sx
      have hbx := hb9.same Sx
      have ai : atI (es.map V.int) (i : Int) = some (.int (es.getD i 0)) := atI_ints (by omega) (by omega)
      have bi : atI (fs.map V.int) (i : Int) = some (.int (fs.getD i 0)) := atI_ints (by omega) (by omega)
      have nx : chgC es fs (i + 1) = chgC es fs i ++ if (!decide (V.int (es.getD i 0) = V.int (fs.getD i 0))) = true then [i] else [] := fr_next (p := fun b => !decide (V.int (es.getD b 0) = V.int (fs.getD b 0))) i
      walk_at "rx"
      refine ⟨rfl, ?_⟩
      walk_at "rx"
      refine ite2 (fun z => ?_) (fun z => ?_)
      · walk_at "rx"
        refine qc _ _ (Same.refl _) ?_
        rw [nx, if_pos z, nvs_app, e]
        rfl
      · refine rc _ (Same.refl _) ?_
        rw [nx, if_neg z, List.append_nil]
        exact e
    intro H10 D acc S10 nD hD e
    have hD : H10 D = some (.lst ((niz (chgC es fs es.length)).map V.int)) := by rw [hD, e]; rfl
    have h910 := S10 _ _ h9
    have r10 := (r8.same S9).same S10
    have eq : ms = niz (chgC es fs es.length) := by
      rw [chgC_eq]
      exact srt_uniq (pm9.trans (niz_perm (rows_perm R))) pw9 (niz_pw (pw_range _ _))
    walk_at "rx"
    refine rd_neL h910 hD ?_
    rw [decide_eq_true eq]
    walk_at "rx"
    refine ⟨_, _, rfl, .inl ⟨a, b, es, fs, rfl, rfl, r10, fun H11 p11 ms2 S11 h11 pm11 pw11 => ?_⟩⟩
    have r11 := r10.same S11
    have lm2 : ms2.length ≤ es.length := by
      have l1 := pm11.length_eq
      have l2 := List.length_filter_le (fun b => !decide (fs.getD b 0 = es.getD b 0) && !decide (fs.getD b 0 = -1)) (List.range es.length)
      rw [List.length_range] at l2
      unfold mvA at l1
      rw [List.length_map] at l1
      omega
    walk_at "rx"
    refine lc_map (walk_tup (xs := ms2.map V.int)) ((ms2.map fun _ => true).map V.bl) (by rw [List.length_map, List.length_map, List.length_map]) (by rw [List.length_map]; omega) (fun H' S => SqT.of (S _ _ h11)) ?_ ?_
    · rintro i x Hx Hy Qc R2 hi Sx ⟨rfl, ex⟩ qc
      have hi2 : i < ms2.length := by rw [List.length_map] at hi; exact hi
      rw [List.getElem?_map, List.getElem?_eq_getElem hi2] at ex
      cases ex
      walk_at "rx"
      refine ⟨rfl, ?_⟩
      walk_at "rx"
      refine ⟨_, rfl, qc _ _ (Same.refl _) ?_⟩
      rw [List.getElem?_map, List.getElem?_map, List.getElem?_eq_getElem hi2]
      rfl
    intro H12 A12 S12 nA hA
    walk_at "rx"
    refine rd_all hA ?_
    have at_ : (ms2.map fun _ => true).all id = true := by rw [List.all_map]; simp
    rw [at_]
    have r12 := r11.same S12
    have ha12 := r12.ta
    have h112 := S12 _ _ h11
    walk_at "rx"
    refine lc_acc (walk_tup (xs := es.map V.int)) (fun i acc => acc = (mvB es fs i).map V.int) rfl (fun i acc hi e => by
      have := mvB_len es fs i
      rw [List.length_map] at hi
      rw [e, List.length_map]
      omega) (fun H' S => (ha12.same S).sq) ?_ ?_
    · rintro i x Hx Hy acc Qc R2 hi Sx e ⟨rfl, ex⟩ qc rc
      have hi2 : i < es.length := by rw [List.length_map] at hi; exact hi
      rw [List.getElem?_map, get_at hi2] at ex
      cases ex
      have rx := r12.same Sx
      have nx := mvB_next es fs i
      have me := mem_at hi2
      have mf := R.pm.mem_iff.mp me
      walk_at "rx"
      refine ⟨rfl, ?_⟩
      walk_at "rx"
      by_cases z : es.getD i 0 = -1
      · rw [decide_eq_true (show V.int (es.getD i 0) = V.int (-1) from by rw [z])]
        walk_at "rx"
        refine rc _ (Same.refl _) ?_
        rw [nx, if_neg (by rw [decide_eq_true z]; simp), List.append_nil]
        exact e
      · rw [decide_eq_false (show ¬ V.int (es.getD i 0) = V.int (-1) from fun w => z (V.int.inj w))]
        walk_at "rx"
        refine rd_tixI rfl rfl rx.ga me ?_
        walk_at "rx"
        refine rd_tixI rfl rfl rx.gb mf ?_
        walk_at "rx"
        by_cases y : es.idxOf (es.getD i 0) = fs.idxOf (es.getD i 0)
        · rw [decide_eq_true (show V.int ((es.idxOf (es.getD i 0) : Nat) : Int) = V.int ((fs.idxOf (es.getD i 0) : Nat) : Int) from by rw [y])]
          walk_at "rx"
          refine rc _ (Same.refl _) ?_
          rw [nx, if_neg (by rw [decide_eq_true y]; simp), List.append_nil]
          exact e
        · rw [decide_eq_false (show ¬ V.int ((es.idxOf (es.getD i 0) : Nat) : Int) = V.int ((fs.idxOf (es.getD i 0) : Nat) : Int) from fun w => y (by have := V.int.inj w; omega))]
          walk_at "rx"
          refine qc _ _ (Same.refl _) ?_
          rw [nx, if_pos (by rw [decide_eq_false z, decide_eq_false y]; rfl), List.map_append, e]
          rfl
    intro H13 D13 acc S13 nD13 hD13 e
    rw [e, List.length_map] at hD13
    have lB := mvB_len es fs es.length
    have h113 := S13 _ _ h112
    walk_at "rx"
    refine rd_newL fun H14 L14 S14 nL14 hL14 => ?_
    have hD14 := S14 _ _ hD13
    walk_at "rx"
    refine rd_sorted hD14 (by omega) fun H15 p15 ms3 S15 n15 h15 pm15 pw15 => ?_
    have hL15 := S15 _ _ hL14
    refine rd_eqL hL15 h15 ?_
    rw [decide_eq_true (show ms2 = ms3 from srt_uniq ((pm11.trans (mv_perm R)).trans pm15.symm) pw11 pw15)]
    exact q _ ((((((((S07.trans S8).trans S9).trans S10).trans S11).trans S12).trans S13).trans S14).trans S15)
def sp_law_with (_K : PySem.W.Frag) : Sp := fun vs H Q _ => ∃ (a : Addr) (es : List Int) (i : Nat) (e : Int), vs = [.ref a, .int (i : Int), .int e] ∧ TG H a es ∧ i < es.length ∧ es.length ≤ 12 ∧ ∀ H' D, Same H H' → TG H' D (es.set i e) → Q (.ref D) H'
set_option maxHeartbeats 4000000 in
theorem ok_law_with (T : Top K mg) {f : Addr} {fd : FuncData} (D : Def K mg "_law_with" s_law_with ["image", "at", "entry"] f fd) : FnOk P w K mg base CX0 1 f fd ["image", "at", "entry"] (sp_law_with K) := by
  refine D.F.ok sc_law_with (fun vs H Q E h => ?_) (fun cdv A outer s H vs Q E hr h => ?_)
  · obtain ⟨a, es, i, e, rfl, _⟩ := h
    rfl
  · obtain ⟨a, es, i, e, rfl, ha, hi, e12, q⟩ := h
    refine ⟨_, (pss_one (ps_ret (pe_op (r := rCat3 K) op_cat3 (pe_op (r := rCat3 K) op_cat3 (pe_slice sl_tup (pv 0) po_none (po_some (pv 1))) (pe_tup (pa_cons (pv 2) pa_nil))) (pe_slice sl_tup (pv 0) (po_some (pe_op op_add (pv 1) pe_int)) po_none)))), ?_⟩
    walk_at "rx"
    refine rd_slO ha (fun k => by have := k.2; rw [HT.sIx_nat, Nat.min_eq_left (by omega)] at this; omega) ?_
    refine rd_newL fun H1 p1 S1 n1 h1 => ?_
    rw [cutI_to es (by omega)] at h1
    have t1 := TG.of h1
    walk_at "rx"
    refine rd_newQ (by simp) fun H2 p2 S2 n2 h2 => ?_
    have t2 : TG H2 p2 [e] := .of h2
    have t12 := t1.same S2
    refine rd_cat3O t12 t2 (by rw [List.length_take]; simp; omega) fun H3 p3 S3 t3 => ?_
    have ha3 := ((ha.same S1).same S2).same S3
    walk_at "rx"
    rw [show (i : Int) + 1 = ((i + 1 : Nat) : Int) by omega]
    refine rd_slO ha3 (fun k => by have := k.1; rw [HT.sIx_nat] at this; omega) ?_
    refine rd_newL fun H4 p4 S4 n4 h4 => ?_
    rw [cutI_from es (by omega)] at h4
    have t4 := TG.of h4
    have t34 := t3.same S4
    refine rd_cat3O t34 t4 (by rw [List.length_append, List.length_take, List.length_drop]; simp; omega) fun H5 p5 S5 t5 => ?_
    rw [List.append_assoc, show [e] ++ es.drop (i + 1) = e :: es.drop (i + 1) from rfl] at t5
    refine q H5 p5 ((((S1.trans S2).trans S3).trans S4).trans S5) ?_
    rw [List.set_eq_take_append_cons_drop, if_pos hi]
    exact t5
def sp_law_doubled (_K : PySem.W.Frag) : Sp := fun vs H Q _ => ∃ (a : Addr) (es : List Int) (g k : Int), vs = [.ref a, .int g, .int k] ∧ TG H a es ∧ es.length ≤ 12 ∧ ∀ H' D, Same H H' → TG H' D (dblL es g k) → Q (.ref D) H'
set_option maxHeartbeats 4000000 in
theorem ok_law_doubled (T : Top K mg) {f : Addr} {fd : FuncData} (D : Def K mg "_law_doubled" s_law_doubled ["image", "gone", "kept"] f fd) : FnOk P w K mg base CX0 1 f fd ["image", "gone", "kept"] (sp_law_doubled K) := by
  refine D.F.ok sc_law_doubled (fun vs H Q E h => ?_) (fun cdv A outer s H vs Q E hr h => ?_)
  · obtain ⟨a, es, g, k, rfl, _⟩ := h
    rfl
  · obtain ⟨a, es, g, k, rfl, ha, e12, q⟩ := h
    refine ⟨_, (pss_one (ps_ret (pe_callTy (r := rTupQ K) call_tupQ (by rfl) T.b_tuple (by decide +kernel) (pa_cons (pe_lc (own := [("entry", 3)]) (g := gName 3) (tt := tYes) rfl sc_law_doubled.nd (pi_tup (pv 0))
      (blkOk_by (own := [("entry", 3)]) (N := ["image", "gone", "kept", "entry"]) (sc := defScope s_law_doubled) (by decide +kernel)) (fun _ _ _ _ _ => (pg_name (i := 3) sc_law_doubled.nd rfl (.inl rfl))) (fun _ _ _ _ _ => pts_nil)
      (fun _ _ _ _ _ => (pe_ifExp (pt_cmpR op_eq (pv 3) (pv 1) (nomark _)) (pv 2) (pv 3)))) pa_nil)))), ?_⟩
    walk_at "rx"
    refine lc_map (walk_tup (xs := es.map V.int)) ((dblL es g k).map V.int) (by rw [List.length_map, List.length_map]; exact List.length_map ..) (by rw [List.length_map]; omega) (fun H' S => (ha.same S).sq) ?_ ?_
    · rintro i x Hx Hy Qc R hi Sx ⟨rfl, ex⟩ qc
      have hi2 : i < es.length := by rw [List.length_map] at hi; exact hi
      rw [List.getElem?_map, get_at hi2] at ex
      cases ex
      have il : ((dblL es g k).map V.int)[i]? = some (V.int (if es.getD i 0 = g then k else es.getD i 0)) := by
        unfold dblL
        rw [List.getElem?_map, List.getElem?_map, get_at hi2]
        rfl
      walk_at "rx"
      refine ⟨rfl, ?_⟩
      walk_at "rx"
      by_cases z : es.getD i 0 = g
      · rw [decide_eq_true (show V.int (es.getD i 0) = V.int g from by rw [z])]
        walk_at "rx"
        rw [if_pos z] at il
        exact qc _ _ (Same.refl _) il
      · rw [decide_eq_false (show ¬ V.int (es.getD i 0) = V.int g from fun w => z (V.int.inj w))]
        walk_at "rx"
        rw [if_neg z] at il
        exact qc _ _ (Same.refl _) il
    · intro H2 D S2 nD hD
      walk_at "rx"
      exact rd_newL fun H3 p S3 np hp => q H3 p (S2.trans S3) (.of hp)
def sp_law_fresh (_K : PySem.W.Frag) : Sp := fun vs H Q _ => ∃ (B : Box) (a : Addr) (es : List Int), vs = [.ref B.b, .ref a] ∧ IsBk B ∧ B.I H ∧ TG H a es ∧ es.length ≤ 12 ∧ ∀ H' (v : Int), Wg B H H' → 0 ≤ v → v ≤ 999 → v ∉ es → Q (.int v) H'
set_option maxHeartbeats 4000000 in
theorem ok_law_fresh (T : Top K mg) {f : Addr} {fd : FuncData} (D : Def K mg "_law_fresh" s_law_fresh ["box", "image"] f fd) : FnOk P w K mg base CX0 2 f fd ["box", "image"] (sp_law_fresh K) := by
  obtain ⟨f_law_take, fd_law_take, D_law_take⟩ := T.d__law_take
  have G_law_take : FnOk P w K mg base CX0 1 f_law_take fd_law_take ["box", "limit"] (sp_law_take K) := ok_law_take T D_law_take
  refine D.F.ok sc_law_fresh (fun vs H Q E h => ?_) (fun cdv A outer s H vs Q E hr h => ?_)
  · obtain ⟨B, a, es, rfl, _⟩ := h
    rfl
  · obtain ⟨B, a, es, rfl, hB, i0, ha, e12, q⟩ := h
    have h13 : -100000 ≤ (13 : Int) ∧ (13 : Int) ≤ 100000 := by decide
    refine ⟨_, (pss_cons (ps_set (i := 2) sc_law_fresh.nd rfl (.inl rfl) (pe_call G_law_take hr (by rfl) D_law_take.g D_law_take.F.kp D_law_take.b .nil pass0 (pa_cons (pv 0) (pa_cons pe_int pa_nil))))
    (pss_cons (ps_for PassesOwn.never rfl (pi_range1 (by rfl) T.b_range (pa_cons pe_int pa_nil)) (pg_name (i := 3) sc_law_fresh.nd rfl (.inl rfl)) (pss_one (ps_if (pt_cmpR (r := rIn K false) op_in_seq (pv 2) (pv 1) (by rfl)) (pss_one (ps_set (i := 2) sc_law_fresh.nd rfl (.inl rfl) (pe_op op_modN (pe_callTy call_intQ (by rfl) T.b_int (by decide +kernel) (pa_cons (pe_op op_add (pv 2) pe_int) pa_nil)) pe_int))) pss_nil)))
    (pss_one (ps_ret (pv 2))))), ?_⟩
    walk_at "rx"
    refine ⟨B, 1000, rfl, hB, i0, by decide, by decide, fun H1 d w1 hd => ?_⟩
    have ha1 := ha.wg w1
    walk_at "rx"
    refine fr_rng0 (fun j σ H' => ∃ (k : Nat) (u : Int) (y3 : Option V), σ = [some (.ref B.b), some (.ref a), some (.int u), y3] ∧ H' = H1 ∧ Cand (c1000 d) es k j u) ⟨0, d, none, rfl, rfl, by
      have := Cand.zero (c := c1000 d) (found := es)
      rw [show c1000 d 0 = d by unfold c1000; omega] at this
      exact this⟩ ?_ ?_
    · rintro j σ H' hj ⟨k, u, y3, rfl, rfl, cd⟩
      walk_at "rx"
      refine rd_inO ha1 rfl ?_
      rw [inV_ints]
      by_cases z : u ∈ es
      · rw [decide_eq_true z]
        walk_at "rx"
        refine ⟨k + 1, _, _, rfl, rfl, ?_⟩
        have := cd.step z
        rw [c1000_next, ← cd.eq] at this
        exact this
      · rw [decide_eq_false z]
        walk_at "rx"
        exact ⟨k, u, _, rfl, rfl, cd.stay z⟩
    · rintro σ H' ⟨k, u, y3, rfl, rfl, cd⟩
      have nu := cd.done (by omega) (fun a b ha hb e => c1000_inj d a b ha hb e)
      walk_at "rx"
      exact q H' u w1 (by rw [cd.eq]; unfold c1000; omega) (by rw [cd.eq]; unfold c1000; omega) nu
def sp_law_bad_values (_K : PySem.W.Frag) : Sp := fun vs H Q _ => ∃ (B : Box) (a b : Addr) (es fs : List Int) (w : Nat), vs = [.ref B.b, .ref a, .ref b, .int (w : Int)] ∧ IsBk B ∧ B.I H ∧ TG H a es ∧ TG H b fs ∧ Img es ∧ Img fs ∧ Ren es fs ∧
  ∀ H' p v1 v2 d s k, Wg B H H' → H' p = some (.lst [v1, v2, .ref d]) → H' d = some (.lst [.str s, .int k]) → BadC H' v1 v2 s k → Q (.ref p) H'
set_option maxHeartbeats 4000000 in
theorem ok_law_bad_values (T : Top K mg) {f : Addr} {fd : FuncData} (D : Def K mg "_law_bad_values" s_law_bad_values ["box", "before", "after", "way"] f fd) : FnOk P w K mg base CX0 3 f fd ["box", "before", "after", "way"] (sp_law_bad_values K) := by
  obtain ⟨f_law_with, fd_law_with, D_law_with⟩ := T.d__law_with
  have G_law_with : FnOk P w K mg base CX0 1 f_law_with fd_law_with ["image", "at", "entry"] (sp_law_with K) := ok_law_with T D_law_with
  obtain ⟨f_law_doubled, fd_law_doubled, D_law_doubled⟩ := T.d__law_doubled
  have G_law_doubled : FnOk P w K mg base CX0 1 f_law_doubled fd_law_doubled ["image", "gone", "kept"] (sp_law_doubled K) := ok_law_doubled T D_law_doubled
  obtain ⟨f_law_take, fd_law_take, D_law_take⟩ := T.d__law_take
  have G_law_take : FnOk P w K mg base CX0 1 f_law_take fd_law_take ["box", "limit"] (sp_law_take K) := ok_law_take T D_law_take
  obtain ⟨f_law_fresh, fd_law_fresh, D_law_fresh⟩ := T.d__law_fresh
  have G_law_fresh : FnOk P w K mg base CX0 2 f_law_fresh fd_law_fresh ["box", "image"] (sp_law_fresh K) := ok_law_fresh T D_law_fresh
  refine D.F.ok sc_law_bad_values (fun vs H Q E h => ?_) (fun cdv A outer s H vs Q E hr h => ?_)
  · obtain ⟨B, a, b, es, fs, w, rfl, _⟩ := h
    rfl
  · obtain ⟨B, a, b, es, fs, w, rfl, hB, i0, ha, hb, I, J, R, q⟩ := h
    have e12 := I.2.1
    have le := R.len
    have hr1 : -100000 ≤ ((es.length : Nat) : Int) ∧ ((es.length : Nat) : Int) ≤ 100000 := by omega
    have done : ∀ {H' p v1 v2 d es2 fs2}, Wg B H H' → H' p = some (.lst [v1, v2, .ref d]) → H' d = some (.lst [.str sRen, .int 0]) → IG H' v1 es2 → IG H' v2 fs2 → ¬ Ren es2 fs2 → Q (.ref p) H' := fun w hp hd i1 i2 n => q _ _ _ _ _ sRen 0 w hp hd (.inr ⟨rfl, rfl, _, _, i1, i2, n⟩)
    refine ⟨_, (pss_cons (ps_set (i := 4) sc_law_bad_values.nd rfl (.inl rfl) (pe_callB (r := rLenQ K) call_lenQ (by rfl) T.b_len PySem.boot_len (pa_cons (pv 1) pa_nil)))
    (pss_cons (ps_setLc (i := 5) (own := [("k", 11)]) (g := gName 11) (tt := _) rfl sc_law_bad_values.nd rfl rfl (sw_true rfl rfl rfl (by decide +kernel)) (pi_range1 (by rfl) T.b_range (pa_cons (pv 4) pa_nil))
      (blkOk_by (own := [("k", 11)]) (N := ["box", "before", "after", "way", "blocks", "full", "empty", "due", "gone", "kept", "entry", "k"]) (sc := defScope s_law_bad_values) (by decide +kernel)) (fun _ _ _ _ _ => (pg_name (i := 11) sc_law_bad_values.nd rfl (.inl rfl))) (fun _ _ _ _ _ => pts_one (pt_cmpR op_ne (pe_ix (r := rIxT K) ix_tup (pv 2) (pv 11) (fun _ _ => rfl)) (pe_un un_neg pe_int) (nomark _)))
      (fun _ _ _ _ _ => (pv 11)))
    (pss_cons (ps_setLc (i := 6) (own := [("k", 11)]) (g := gName 11) (tt := _) rfl sc_law_bad_values.nd rfl rfl (sw_true rfl rfl rfl (by decide +kernel)) (pi_range1 (by rfl) T.b_range (pa_cons (pv 4) pa_nil))
      (blkOk_by (own := [("k", 11)]) (N := ["box", "before", "after", "way", "blocks", "full", "empty", "due", "gone", "kept", "entry", "k"]) (sc := defScope s_law_bad_values) (by decide +kernel)) (fun _ _ _ _ _ => (pg_name (i := 11) sc_law_bad_values.nd rfl (.inl rfl))) (fun _ _ _ _ _ => pts_one (pt_cmpR op_eq (pe_ix (r := rIxT K) ix_tup (pv 2) (pv 11) (fun _ _ => rfl)) (pe_un un_neg pe_int) (nomark _)))
      (fun _ _ _ _ _ => (pv 11)))
    (pss_cons (ps_set (i := 7) sc_law_bad_values.nd rfl (.inl rfl) (pe_lst (pa_cons pe_str (pa_cons pe_int pa_nil))))
    (pss_cons (ps_if (pt_cmpR op_eq (pv 3) pe_int (nomark _)) (pss_cons (ps_if (pt_cmpR op_lt (pv 4) pe_int (nomark _)) (pss_one (ps_ret (pe_lst (pa_cons (pv 1) (pa_cons (pe_op (r := rCat3 K) op_cat3 (pv 2) (pe_tup (pa_cons (pe_un un_neg pe_int) pa_nil))) (pa_cons (pv 7) pa_nil)))))) pss_nil)
    (pss_one (ps_ret (pe_lst (pa_cons (pv 1) (pa_cons (pe_slice sl_tup (pv 2) po_none (po_some pe_int)) (pa_cons (pv 7) pa_nil))))))) pss_nil)
    (C8.pss_cut (ps_if (PW.pt (pw_and (pt_cmpR op_eq (pv 3) pe_int (nomark _)) (pw_and1 (pt_cmpR op_gt (pe_callB (r := rLenQ K) call_lenQ (by rfl) T.b_len PySem.boot_len (pa_cons (pv 5) pa_nil)) pe_int (nomark _))))) (pss_cons (ps_set (i := 8) sc_law_bad_values.nd rfl (.inr rfl) (pe_ix (r := rIxT K) ix_tup (pv 2) (pe_ix (r := rIxL K) ix_list (pv 5) (pe_call G_law_take (hr.mono (by decide)) (by rfl) D_law_take.g D_law_take.F.kp D_law_take.b .nil pass0 (pa_cons (pv 0) (pa_cons (pe_callB (r := rLenQ K) call_lenQ (by rfl) T.b_len PySem.boot_len (pa_cons (pv 5) pa_nil)) pa_nil))) (fun _ _ => rfl)) (fun _ _ => rfl)))
    (pss_cons (ps_set (i := 9) sc_law_bad_values.nd rfl (.inl rfl) (pe_ix (r := rIxT K) ix_tup (pv 2) (pe_ix (r := rIxL K) ix_list (pe_lc (own := [("k", 11)]) (g := gName 11) (tt := _) rfl sc_law_bad_values.nd (pi_list (pv 5))
      (blkOk_by (own := [("k", 11)]) (N := ["box", "before", "after", "way", "blocks", "full", "empty", "due", "gone", "kept", "entry", "k"]) (sc := defScope s_law_bad_values) (by decide +kernel)) (fun _ _ _ _ _ => (pg_name (i := 11) sc_law_bad_values.nd rfl (.inl rfl))) (fun _ _ _ _ _ => pts_one (pt_cmpR op_ne (pe_ix (r := rIxT K) ix_tup (pv 2) (pv 11) (fun _ _ => rfl)) (pv 8) (nomark _)))
      (fun _ _ _ _ _ => (pv 11))) (pe_call G_law_take (hr.mono (by decide)) (by rfl) D_law_take.g D_law_take.F.kp D_law_take.b .nil pass0 (pa_cons (pv 0) (pa_cons (pe_op op_sub (pe_callB (r := rLenQ K) call_lenQ (by rfl) T.b_len PySem.boot_len (pa_cons (pv 5) pa_nil)) pe_int) pa_nil))) (fun _ _ => rfl)) (fun _ _ => rfl)))
    (pss_one (ps_ret (pe_lst (pa_cons (pe_call G_law_doubled (hr.mono (by decide)) (by rfl) D_law_doubled.g D_law_doubled.F.kp D_law_doubled.b .nil pass0 (pa_cons (pv 1) (pa_cons (pv 8) (pa_cons (pv 9) pa_nil)))) (pa_cons (pe_call G_law_doubled (hr.mono (by decide)) (by rfl) D_law_doubled.g D_law_doubled.F.kp D_law_doubled.b .nil pass0 (pa_cons (pv 2) (pa_cons (pv 8) (pa_cons (pv 9) pa_nil)))) (pa_cons (pv 7) pa_nil)))))))) pss_nil)
    (C8.pss_cut (ps_if (PW.pt (pw_and (pt_cmpR op_eq (pv 3) pe_int (nomark _)) (pw_and (pt_cmpR (op_neD hr.units) (pv 5) (pe_lst pa_nil) (nomark _)) (pw_and1 (pt_cmpR (op_neD hr.units) (pv 6) (pe_lst pa_nil) (nomark _)))))) (pss_cons (ps_set (i := 10) sc_law_bad_values.nd rfl (.inl rfl) (pe_ix (r := rIxT K) ix_tup (pv 2) (pe_ix (r := rIxL K) ix_list (pv 5) (pe_call G_law_take (hr.mono (by decide)) (by rfl) D_law_take.g D_law_take.F.kp D_law_take.b .nil pass0 (pa_cons (pv 0) (pa_cons (pe_callB (r := rLenQ K) call_lenQ (by rfl) T.b_len PySem.boot_len (pa_cons (pv 5) pa_nil)) pa_nil))) (fun _ _ => rfl)) (fun _ _ => rfl)))
    (pss_one (ps_ret (pe_lst (pa_cons (pv 1) (pa_cons (pe_call G_law_with (hr.mono (by decide)) (by rfl) D_law_with.g D_law_with.F.kp D_law_with.b .nil pass0 (pa_cons (pv 2) (pa_cons (pe_ix (r := rIxL K) ix_list (pv 6) (pe_call G_law_take (hr.mono (by decide)) (by rfl) D_law_take.g D_law_take.F.kp D_law_take.b .nil pass0 (pa_cons (pv 0) (pa_cons (pe_callB (r := rLenQ K) call_lenQ (by rfl) T.b_len PySem.boot_len (pa_cons (pv 6) pa_nil)) pa_nil))) (fun _ _ => rfl)) (pa_cons (pv 10) pa_nil)))) (pa_cons (pv 7) pa_nil))))))) pss_nil)
    (C8.pss_cut (ps_if (PW.pt (pw_and (pt_cmpR op_eq (pv 3) pe_int (nomark _)) (pw_and1 (pt_cmpR (op_neD hr.units) (pv 5) (pe_lst pa_nil) (nomark _))))) (pss_one (ps_ret (pe_lst (pa_cons (pv 1) (pa_cons (pe_call G_law_with (hr.mono (by decide)) (by rfl) D_law_with.g D_law_with.F.kp D_law_with.b .nil pass0 (pa_cons (pv 2) (pa_cons (pe_ix (r := rIxL K) ix_list (pv 5) (pe_call G_law_take (hr.mono (by decide)) (by rfl) D_law_take.g D_law_take.F.kp D_law_take.b .nil pass0 (pa_cons (pv 0) (pa_cons (pe_callB (r := rLenQ K) call_lenQ (by rfl) T.b_len PySem.boot_len (pa_cons (pv 5) pa_nil)) pa_nil))) (fun _ _ => rfl)) (pa_cons (pe_un un_neg pe_int) pa_nil)))) (pa_cons (pv 7) pa_nil)))))) pss_nil)
    (pss_one (ps_ret (pe_lst (pa_cons (pv 1) (pa_cons (pe_call G_law_with (hr.mono (by decide)) (by rfl) D_law_with.g D_law_with.F.kp D_law_with.b .nil pass0 (pa_cons (pv 2) (pa_cons (pe_call G_law_take (hr.mono (by decide)) (by rfl) D_law_take.g D_law_take.F.kp D_law_take.b .nil pass0 (pa_cons (pv 0) (pa_cons (pv 4) pa_nil))) (pa_cons (pe_call G_law_fresh hr (by rfl) D_law_fresh.g D_law_fresh.F.kp D_law_fresh.b .nil pass0 (pa_cons (pv 0) (pa_cons (pv 1) pa_nil))) pa_nil)))) (pa_cons (pv 7) pa_nil)))))))))))))), ?_⟩
    walk_at "rx"
    rw [show (((es.length : Nat) : Int)).toNat = fs.length by omega]
    refine lc_acc walk_rng (fun i acc => acc = nvs (fulP fs i)) rfl (fun i acc hi e => by have := fulP_len fs i; rw [e, nvs_len]; omega) (fun _ _ => trivial) ?_ ?_
    · rintro i x Hx Hy acc Qc R2 hi Sx e ⟨rfl, rfl⟩ qc rc
      have hbx := hb.same Sx
      have ai : atI (fs.map V.int) (i : Int) = some (.int (fs.getD i 0)) := atI_ints (by omega) (by omega)
      have nx : fulP fs (i + 1) = fulP fs i ++ if (!decide (V.int (fs.getD i 0) = V.int (-1))) = true then [i] else [] := fr_next (p := fun k => !decide (V.int (fs.getD k 0) = V.int (-1))) i
      walk_at "rx"
      refine ⟨rfl, ?_⟩
      walk_at "rx"
      refine ite2 (fun z => ?_) (fun z => ?_)
      · walk_at "rx"
        refine qc _ _ (Same.refl _) ?_
        rw [nx, if_pos z, nvs_app, e]
        rfl
      · refine rc _ (Same.refl _) ?_
        rw [nx, if_neg z, List.append_nil]
        exact e
    intro H1 F acc S1 nF hF e
    subst e
    have hb1 := hb.same S1
    walk_at "rx"
    rw [show (((es.length : Nat) : Int)).toNat = fs.length by omega]
    refine lc_acc walk_rng (fun i acc => acc = nvs (empP fs i)) rfl (fun i acc hi e => by have := empP_len fs i; rw [e, nvs_len]; omega) (fun _ _ => trivial) ?_ ?_
    · rintro i x Hx Hy acc Qc R2 hi Sx e ⟨rfl, rfl⟩ qc rc
      have hbx := hb1.same Sx
      have ai : atI (fs.map V.int) (i : Int) = some (.int (fs.getD i 0)) := atI_ints (by omega) (by omega)
      have nx : empP fs (i + 1) = empP fs i ++ if (decide (V.int (fs.getD i 0) = V.int (-1))) = true then [i] else [] := fr_next (p := fun k => decide (V.int (fs.getD k 0) = V.int (-1))) i
      walk_at "rx"
      refine ⟨rfl, ?_⟩
      walk_at "rx"
      refine ite2 (fun z => ?_) (fun z => ?_)
      · walk_at "rx"
        refine qc _ _ (Same.refl _) ?_
        rw [nx, if_pos z, nvs_app, e]
        rfl
      · refine rc _ (Same.refl _) ?_
        rw [nx, if_neg z, List.append_nil]
        exact e
    intro H2 G S2e S2 nG hG e
    subst e
    have hF2 := S2 _ _ hF
    walk_at "rx"
    refine rd_newQ (by simp) fun H3 d S3 nd hd => ?_
    have S03 := (S1.trans S2).trans S3
    have w3 := Wg.ofSame i0 S03
    have hF3 := S3 _ _ hF2
    have hG3 := S3 _ _ hG
    have ha3 := ha.same S03
    have hb3 := hb.same S03
    have mF : F ∉ B.m := B.nem i0 nF
    have mG : G ∉ B.m := B.nem (Wg.ofSame i0 S1).i1 nG
    have md : d ∉ B.m := B.nem (Wg.ofSame i0 (S1.trans S2)).i1 nd
    have fl := fulP_len fs fs.length
    have el := empP_len fs fs.length
    have mf : ∀ k, k ∈ fulP fs fs.length → k < fs.length ∧ fs.getD k 0 ≠ -1 := fun k h => mem_fulP.mp h
    have me : ∀ k, k ∈ empP fs fs.length → k < fs.length ∧ fs.getD k 0 = -1 := fun k h => mem_empP.mp h
    have ol := fun g => othP_len R (g := g)
    generalize eFu : fulP fs fs.length = fu at *
    generalize empP fs fs.length = em at *
    walk_at "rx"
    refine ite2 (fun z => ?_) (fun z => ?_)
    · walk_at "rx"
      refine ite2 (fun z2 => ?_) (fun z2 => ?_)
      · have l12 : es.length < 12 := by have : ((es.length : Nat) : Int) < 12 := of_decide_eq_true z2; omega
        walk_at "rx"
        refine rd_newQ (by simp) fun H4 O S4 nO hO => ?_
        have tO : TG H4 O [-1] := .of hO
        have hb4 := hb3.same S4
        refine rd_cat3O hb4 tO (by simp; omega) fun H5 C S5 tC => ?_
        walk_at "rx"
        refine rd_newQ (by simp) fun H6 p S6 np hp => ?_
        refine done (((w3.same S4).same S5).same S6) hp (S6 _ _ (S5 _ _ (S4 _ _ hd))) ⟨a, rfl, ((ha3.same S4).same S5).same S6, I⟩ ⟨C, rfl, tC.same S6, by rw [List.length_append]; simp, by rw [List.length_append]; simp; omega, fun x hx => ?_⟩ (fun r => by have := r.len; rw [List.length_append] at this; simp at this; omega)
        rcases List.mem_append.mp hx with y | y
        · exact J.2.2 x y
        · rw [List.mem_singleton.mp y]; decide
      · have l12 : es.length = 12 := by
          have : ¬ ((es.length : Nat) : Int) < 12 := fun k => z2 (decide_eq_true k)
          omega
        walk_at "rx"
        refine rd_slO hb3 (fun k => by
          have k2 := k.2
          rw [show (11 : Int) = ((11 : Nat) : Int) from rfl, HT.sIx_nat] at k2
          omega) ?_
        refine rd_newL fun H4 C S4 nC hC => ?_
        rw [show (11 : Int) = ((11 : Nat) : Int) from rfl, cutI_to _ (by omega)] at hC
        have tC := TG.of hC
        walk_at "rx"
        refine rd_newQ (by simp) fun H6 p S6 np hp => ?_
        exact done ((w3.same S4).same S6) hp (S6 _ _ (S4 _ _ hd)) ⟨a, rfl, (ha3.same S4).same S6, I⟩ ⟨C, rfl, tC.same S6, by rw [List.length_take]; omega, by rw [List.length_take]; omega, fun x hx => J.2.2 x (List.mem_of_mem_take hx)⟩ (fun r => by have := r.len; rw [List.length_take] at this; omega)
    walk_at "rx"
    refine ⟨fun σ' H' => σ' = [some (.ref B.b), some (.ref a), some (.ref b), some (.int (w : Int)), some (.int ((es.length : Nat) : Int)), some (.ref F), some (.ref G), some (.ref d), none, none, none, none] ∧ H' = H3, ?_, ?_⟩
    · walk_at "rx"
      refine ite2 (fun z => ?_) (fun z => ?_)
      · walk_at "rx"
        refine ite2 (fun z2 => ?_) (fun z2 => ?_)
        · have l2 : 1 < fu.length := by
            have : (1 : Int) < (((nvs fu).length : Nat) : Int) := of_decide_eq_true z2
            rw [nvs_len] at this
            omega
          walk_at "rx"
          refine ⟨B, ((nvs fu).length : Nat), rfl, hB, w3.i1, by rw [nvs_len]; omega, by rw [nvs_len]; omega, fun H4 d1 w4 hd1 => ?_⟩
          rw [nvs_len] at hd1
          have e1 : fu[d1]? = some fu[d1] := List.getElem?_eq_getElem (by omega)
          have o1 := mf _ (List.getElem_mem (show d1 < fu.length by omega))
          have ax := nvs_atI (i := d1) e1
          generalize fu[d1] = k1 at *
          have a1 : atI (fs.map V.int) (k1 : Int) = some (.int (fs.getD k1 0)) := atI_ints (by omega) (by omega)
          have hF4 := w4.lst mF hF3
          have hd4 := w4.lst md hd
          have ha4 := ha3.wg w4
          have hb4 := hb3.wg w4
          have w34 := w3.trans w4
          walk_at "rx"
          refine lc_acc (walk_list (xs := nvs fu)) (fun i acc => acc = nvs (othP fs (fs.getD k1 0) (fu.take i))) rfl (fun i acc hi e => by
            have := List.length_filter_le (fun k => !decide (V.int (fs.getD k 0) = V.int (fs.getD k1 0))) (fu.take i)
            rw [List.length_take] at this
            unfold othP at e
            rw [e, nvs_len]
            omega) (fun H' S => SqL.of (S _ _ hF4)) ?_ ?_
          · rintro i x Hx Hy acc Qc R2 hi Sx e ⟨rfl, ex⟩ qc rc
            rw [nvs_len] at hi
            rw [nvs_get (List.getElem?_eq_getElem hi)] at ex
            cases ex
            have hbx := hb4.same Sx
            have pl := (mf _ (List.getElem_mem hi)).1
            have ai : atI (fs.map V.int) ((fu[i] : Nat) : Int) = some (.int (fs.getD fu[i] 0)) := atI_ints (by omega) (by omega)
            have nx : othP fs (fs.getD k1 0) (fu.take (i + 1)) = othP fs (fs.getD k1 0) (fu.take i) ++ if (!decide (V.int (fs.getD fu[i] 0) = V.int (fs.getD k1 0))) = true then [fu[i]] else [] := fl_next (p := fun k => !decide (V.int (fs.getD k 0) = V.int (fs.getD k1 0))) hi
            walk_at "rx"
            refine ⟨rfl, ?_⟩
            walk_at "rx"
            refine ite2 (fun y => ?_) (fun y => ?_)
            · walk_at "rx"
              refine qc _ _ (Same.refl _) ?_
              rw [nx, if_pos y, nvs_app, e]
              rfl
            · refine rc _ (Same.refl _) ?_
              rw [nx, if_neg y, List.append_nil]
              exact e
          intro H5 O acc S5 nO hO e
          rw [e, nvs_len, List.take_length] at hO
          have mO : O ∉ B.m := B.nem w4.i1 nO
          have ol2 := ol (fs.getD k1 0)
          have mo : ∀ k, k ∈ othP fs (fs.getD k1 0) fu → k ∈ fu ∧ fs.getD k 0 ≠ fs.getD k1 0 := fun k h => mem_othP.mp h
          generalize othP fs (fs.getD k1 0) fu = ot at *
          have hF5 := S5 _ _ hF4
          walk_at "rx"
          refine ⟨B, _, rfl, hB, (w34.same S5).i1, by rw [nvs_len]; omega, by rw [nvs_len]; omega, fun H6 d2 w6 hd2 => ?_⟩
          rw [nvs_len] at hd2
          have e2 : ot[d2]? = some ot[d2] := List.getElem?_eq_getElem (by omega)
          have o2 := mo _ (List.getElem_mem (show d2 < ot.length by omega))
          have ay := nvs_atI (i := d2) e2
          generalize ot[d2] = k2 at *
          have o22 := mf _ o2.1
          have a2 : atI (fs.map V.int) (k2 : Int) = some (.int (fs.getD k2 0)) := atI_ints (by omega) (by omega)
          have hO6 := w6.lst mO hO
          have hd6 := w6.lst md (S5 _ _ hd4)
          have ha6 := (ha4.same S5).wg w6
          have hb6 := (hb4.same S5).wg w6
          have w36 := (w34.same S5).trans w6
          walk_at "rx"
          refine ⟨a, es, _, _, rfl, ha6, e12, fun H7 D1 S7 t1 => ?_⟩
          have hb7 := hb6.same S7
          walk_at "rx"
          refine ⟨b, fs, _, _, rfl, hb7, by omega, fun H8 D2 S8 t2 => ?_⟩
          walk_at "rx"
          refine rd_newQ (by simp) fun H9 p S9 np hp => ?_
          exact done (((w36.same S7).same S8).same S9) hp (S9 _ _ (S8 _ _ (S7 _ _ hd6))) ⟨D1, rfl, (t1.same S8).same S9, img_dbl I (J.2.2 _ (mem_at o22.1))⟩ ⟨D2, rfl, t2.same S9, img_dbl J (J.2.2 _ (mem_at o22.1))⟩ (no_dbl R (mem_at o1.1) (mem_at o22.1) (fun z => o2.2 z.symm) o22.2)
        · exact ⟨rfl, rfl⟩
      · exact ⟨rfl, rfl⟩
    rintro σ' H' ⟨rfl, rfl⟩
    walk_at "rx"
    refine ⟨fun σ' H4 => σ' = [some (.ref B.b), some (.ref a), some (.ref b), some (.int (w : Int)), some (.int ((es.length : Nat) : Int)), some (.ref F), some (.ref G), some (.ref d), none, none, none, none] ∧ Same H' H4, ?_, ?_⟩
    · walk_at "rx"
      refine ite2 (fun z => ?_) (fun z => ?_)
      · walk_at "rx"
        refine rd_newQ (by simp) fun H4 O1 S4 nO1 hO1 => ?_
        have hF4 : H4 F = some (.lst ((niz fu).map V.int)) := S4 _ _ hF3
        refine rd_neN hF4 hO1 ?_
        cases fu with
        | nil =>
          walk_at "rx"
          show if false = true then _ else _
          exact ⟨rfl, S4⟩
        | cons f0 fr =>
          walk_at "rx"
          show if true = true then _ else _
          walk_at "rx"
          refine rd_newQ (by simp) fun H5 O2 S5 nO2 hO2 => ?_
          have hG5 : H5 G = some (.lst ((niz em).map V.int)) := S5 _ _ (S4 _ _ hG3)
          refine rd_neN hG5 hO2 ?_
          cases em with
          | nil =>
            walk_at "rx"
            show if false = true then _ else _
            exact ⟨rfl, S4.trans S5⟩
          | cons g0 gr =>
            walk_at "rx"
            show if true = true then _ else _
            have hF5 := S5 _ _ hF4
            have hF5 : H5 F = some (.lst (nvs (f0 :: fr))) := hF5
            have hG5 : H5 G = some (.lst (nvs (g0 :: gr))) := hG5
            have w5 := (w3.same S4).same S5
            walk_at "rx"
            refine ⟨B, ((nvs (f0 :: fr)).length : Nat), rfl, hB, w5.i1, by rw [nvs_len, List.length_cons]; omega, by rw [nvs_len]; omega, fun H6 d1 w6 hd1 => ?_⟩
            rw [nvs_len] at hd1
            have e1 : (f0 :: fr)[d1]? = some (f0 :: fr)[d1] := List.getElem?_eq_getElem (by omega)
            have o1 := mf _ (List.getElem_mem (show d1 < (f0 :: fr).length by omega))
            have ax := nvs_atI (i := d1) e1
            generalize (f0 :: fr)[d1] = k1 at *
            have a1 : atI (fs.map V.int) (k1 : Int) = some (.int (fs.getD k1 0)) := atI_ints (by omega) (by omega)
            have hF6 := w6.lst mF hF5
            have hG6 := w6.lst mG hG5
            have hd6 := w6.lst md (S5 _ _ (S4 _ _ hd))
            have ha6 := ((ha3.same S4).same S5).wg w6
            have hb6 := ((hb3.same S4).same S5).wg w6
            have w56 := w5.trans w6
            walk_at "rx"
            refine ⟨B, ((nvs (g0 :: gr)).length : Nat), rfl, hB, w6.i1, by rw [nvs_len, List.length_cons]; omega, by rw [nvs_len]; omega, fun H7 d2 w7 hd2 => ?_⟩
            rw [nvs_len] at hd2
            have e2 : (g0 :: gr)[d2]? = some (g0 :: gr)[d2] := List.getElem?_eq_getElem (by omega)
            have o2 := me _ (List.getElem_mem (show d2 < (g0 :: gr).length by omega))
            have ay := nvs_atI (i := d2) e2
            generalize (g0 :: gr)[d2] = k2 at *
            have hG7 := w7.lst mG hG6
            have hd7 := w7.lst md hd6
            have ha7 := ha6.wg w7
            have hb7 := hb6.wg w7
            have w57 := w56.trans w7
            walk_at "rx"
            refine ⟨b, fs, k2, _, rfl, hb7, by omega, by omega, fun H8 D1 S8 t1 => ?_⟩
            walk_at "rx"
            refine rd_newQ (by simp) fun H9 p S9 np hp => ?_
            exact done ((w57.same S8).same S9) hp (S9 _ _ (S8 _ _ hd7)) ⟨a, rfl, (ha7.same S8).same S9, I⟩ ⟨D1, rfl, t1.same S9, img_set J (J.2.2 _ (mem_at o1.1))⟩ (no_twice o1.1 o2.1 o1.2 o2.2)
      · exact ⟨rfl, Same.refl _⟩
    rintro σ' H4 ⟨rfl, S4⟩
    have hF4 := S4 _ _ hF3
    have hd4 := S4 _ _ hd
    have ha4 := ha3.same S4
    have hb4 := hb3.same S4
    have w4 := w3.same S4
    walk_at "rx"
    refine ⟨fun σ' H5 => σ' = [some (.ref B.b), some (.ref a), some (.ref b), some (.int (w : Int)), some (.int ((es.length : Nat) : Int)), some (.ref F), some (.ref G), some (.ref d), none, none, none, none] ∧ Same H4 H5, ?_, ?_⟩
    · walk_at "rx"
      refine ite2 (fun z => ?_) (fun z => ?_)
      · walk_at "rx"
        refine rd_newQ (by simp) fun H5 O1 S5 nO1 hO1 => ?_
        have hF5 : H5 F = some (.lst ((niz fu).map V.int)) := S5 _ _ hF4
        refine rd_neN hF5 hO1 ?_
        cases fu with
        | nil =>
          walk_at "rx"
          show if false = true then _ else _
          exact ⟨rfl, S5⟩
        | cons f0 fr =>
          walk_at "rx"
          show if true = true then _ else _
          have hF5 : H5 F = some (.lst (nvs (f0 :: fr))) := hF5
          have w5 := w4.same S5
          walk_at "rx"
          refine ⟨B, ((nvs (f0 :: fr)).length : Nat), rfl, hB, w5.i1, by rw [nvs_len, List.length_cons]; omega, by rw [nvs_len]; omega, fun H6 d1 w6 hd1 => ?_⟩
          rw [nvs_len] at hd1
          have e1 : (f0 :: fr)[d1]? = some (f0 :: fr)[d1] := List.getElem?_eq_getElem (by omega)
          have o1 := mf _ (List.getElem_mem (show d1 < (f0 :: fr).length by omega))
          have ax := nvs_atI (i := d1) e1
          generalize (f0 :: fr)[d1] = k1 at *
          have hF6 := w6.lst mF hF5
          have hd6 := w6.lst md (S5 _ _ hd4)
          have ha6 := (ha4.same S5).wg w6
          have hb6 := (hb4.same S5).wg w6
          walk_at "rx"
          refine ⟨b, fs, k1, _, rfl, hb6, by omega, by omega, fun H8 D1 S8 t1 => ?_⟩
          walk_at "rx"
          refine rd_newQ (by simp) fun H9 p S9 np hp => ?_
          exact done (((w5.trans w6).same S8).same S9) hp (S9 _ _ (S8 _ _ hd6)) ⟨a, rfl, (ha6.same S8).same S9, I⟩ ⟨D1, rfl, t1.same S9, img_set J (by decide)⟩ (no_gone R o1.1 o1.2)
      · exact ⟨rfl, Same.refl _⟩
    rintro σ' H5 ⟨rfl, S5⟩
    have w5 := w4.same S5
    walk_at "rx"
    refine ⟨B, _, rfl, hB, w5.i1, by have := I.1; omega, by omega, fun H6 t w6 ht => ?_⟩
    have ha6 := (ha4.same S5).wg w6
    walk_at "rx"
    refine ⟨B, a, es, rfl, hB, w6.i1, ha6, e12, fun H7 v w7 v0 v1 nv => ?_⟩
    have hd7 := w7.lst md (w6.lst md (S5 _ _ hd4))
    have ha7 := ha6.wg w7
    have hb7 := ((hb4.same S5).wg w6).wg w7
    walk_at "rx"
    refine ⟨b, fs, t, v, rfl, hb7, by omega, by omega, fun H8 D1 S8 t1 => ?_⟩
    walk_at "rx"
    refine rd_newQ (by simp) fun H9 p S9 np hp => ?_
    exact done ((((w5.trans w6).trans w7).same S8).same S9) hp (S9 _ _ (S8 _ _ hd7)) ⟨a, rfl, (ha7.same S8).same S9, I⟩ ⟨D1, rfl, t1.same S9, img_set J ⟨by omega, v1⟩⟩ (no_new (by omega) nv)
def sp_law_wrong (_K : PySem.W.Frag) : Sp := fun vs H Q _ => ∃ (B : Box), vs = [.ref B.b] ∧ IsBk B ∧ B.I H ∧ ∀ H' e, Wg B H H' → ¬ EOk e → Q (.int e) H'
set_option maxHeartbeats 4000000 in
theorem ok_law_wrong (T : Top K mg) {f : Addr} {fd : FuncData} (D : Def K mg "_law_wrong" s_law_wrong ["box"] f fd) : FnOk P w K mg base CX0 2 f fd ["box"] (sp_law_wrong K) := by
  obtain ⟨f_law_take, fd_law_take, D_law_take⟩ := T.d__law_take
  have G_law_take : FnOk P w K mg base CX0 1 f_law_take fd_law_take ["box", "limit"] (sp_law_take K) := ok_law_take T D_law_take
  refine D.F.ok sc_law_wrong (fun vs H Q E h => ?_) (fun cdv A outer s H vs Q E hr h => ?_)
  · obtain ⟨B, rfl, _⟩ := h
    rfl
  · obtain ⟨B, rfl, hB, i0, q⟩ := h
    refine ⟨_, (pss_cons (ps_set (i := 1) sc_law_wrong.nd rfl (.inl rfl) (pe_call G_law_take hr (by rfl) D_law_take.g D_law_take.F.kp D_law_take.b .nil pass0 (pa_cons (pv 0) (pa_cons pe_int pa_nil))))
    (pss_cons (ps_if (pt_cmpR op_eq (pv 1) pe_int (nomark _)) (pss_one (ps_ret (pe_un un_neg pe_int))) pss_nil)
    (pss_cons (ps_if (pt_cmpR op_eq (pv 1) pe_int (nomark _)) (pss_one (ps_ret pe_int)) pss_nil)
    (pss_cons (ps_if (pt_cmpR op_eq (pv 1) pe_int (nomark _)) (pss_one (ps_ret (pe_op op_add pe_int (pe_call G_law_take hr (by rfl) D_law_take.g D_law_take.F.kp D_law_take.b .nil pass0 (pa_cons (pv 0) (pa_cons (pe_op op_pow pe_int pe_int) pa_nil)))))) pss_nil)
    (pss_one (ps_ret (pe_op op_sub (pe_un un_neg pe_int) (pe_call G_law_take hr (by rfl) D_law_take.g D_law_take.F.kp D_law_take.b .nil pass0 (pa_cons (pv 0) (pa_cons (pe_op op_pow pe_int pe_int) pa_nil)))))))))), ?_⟩
    walk_at "rx"
    refine ⟨B, 4, rfl, hB, i0, by decide, by decide, fun H1 way w1 hw => ?_⟩
    walk_at "rx"
    refine ite2 (fun z => ?_) (fun z => ?_)
    · walk_at "rx"
      exact q _ _ w1 (by unfold EOk; omega)
    walk_at "rx"
    refine ite2 (fun z => ?_) (fun z => ?_)
    · walk_at "rx"
      exact q _ _ w1 (by unfold EOk; omega)
    walk_at "rx"
    refine ite2 (fun z => ?_) (fun z => ?_)
    · walk_at "rx"
      refine ⟨B, _, rfl, hB, w1.i1, by decide, by decide, fun H2 d w2 hd => ?_⟩
      walk_at "rx"
      exact q _ _ (w1.trans w2) (by unfold EOk; omega)
    · walk_at "rx"
      refine ⟨B, _, rfl, hB, w1.i1, by decide, by decide, fun H2 d w2 hd => ?_⟩
      walk_at "rx"
      exact q _ _ (w1.trans w2) (by unfold EOk; omega)
def sp_law_bad_image (_K : PySem.W.Frag) : Sp := fun vs H Q _ => ∃ (B : Box) (a b : Addr) (es fs : List Int) (w : Nat), vs = [.ref B.b, .ref a, .ref b, .int (w : Int)] ∧ IsBk B ∧ B.I H ∧ TG H a es ∧ TG H b fs ∧ Img es ∧ Img fs ∧ es.length = fs.length ∧
  ∀ H' p v1 v2 d s k, Wg B H H' → H' p = some (.lst [v1, v2, .ref d]) → H' d = some (.lst [.str s, .int k]) → BadC H' v1 v2 s k → Q (.ref p) H'
set_option maxHeartbeats 4000000 in
theorem ok_law_bad_image (T : Top K mg) {f : Addr} {fd : FuncData} (D : Def K mg "_law_bad_image" s_law_bad_image ["box", "before", "after", "way"] f fd) : FnOk P w K mg base CX0 3 f fd ["box", "before", "after", "way"] (sp_law_bad_image K) := by
  obtain ⟨f_law_take, fd_law_take, D_law_take⟩ := T.d__law_take
  have G_law_take : FnOk P w K mg base CX0 1 f_law_take fd_law_take ["box", "limit"] (sp_law_take K) := ok_law_take T D_law_take
  obtain ⟨f_law_wrong, fd_law_wrong, D_law_wrong⟩ := T.d__law_wrong
  have G_law_wrong : FnOk P w K mg base CX0 2 f_law_wrong fd_law_wrong ["box"] (sp_law_wrong K) := ok_law_wrong T D_law_wrong
  obtain ⟨f_law_with, fd_law_with, D_law_with⟩ := T.d__law_with
  have G_law_with : FnOk P w K mg base CX0 1 f_law_with fd_law_with ["image", "at", "entry"] (sp_law_with K) := ok_law_with T D_law_with
  refine D.F.ok sc_law_bad_image (fun vs H Q E h => ?_) (fun cdv A outer s H vs Q E hr h => ?_)
  · obtain ⟨B, a, b, es, fs, w, rfl, _⟩ := h
    rfl
  · obtain ⟨B, a, b, es, fs, w, rfl, hB, i0, ha, hb, I, J, le, q⟩ := h
    have e1 := I.1
    have e12 := I.2.1
    refine ⟨_, (pss_cons (ps_set (i := 4) sc_law_bad_image.nd rfl (.inl rfl) (pe_call G_law_take (hr.mono (by decide)) (by rfl) D_law_take.g D_law_take.F.kp D_law_take.b .nil pass0 (pa_cons (pv 0) (pa_cons (pe_callB (r := rLenQ K) call_lenQ (by rfl) T.b_len PySem.boot_len (pa_cons (pv 1) pa_nil)) pa_nil))))
    (pss_cons (ps_set (i := 5) sc_law_bad_image.nd rfl (.inl rfl) (pe_call G_law_take (hr.mono (by decide)) (by rfl) D_law_take.g D_law_take.F.kp D_law_take.b .nil pass0 (pa_cons (pv 0) (pa_cons (pe_callB (r := rLenQ K) call_lenQ (by rfl) T.b_len PySem.boot_len (pa_cons (pv 1) pa_nil)) pa_nil))))
    (pss_cons (ps_set (i := 6) sc_law_bad_image.nd rfl (.inl rfl) (pe_call G_law_wrong hr (by rfl) D_law_wrong.g D_law_wrong.F.kp D_law_wrong.b .nil pass0 (pa_cons (pv 0) pa_nil)))
    (pss_cons (ps_if (pt_cmpR op_eq (pv 3) pe_int (nomark _)) (pss_one (ps_ret (pe_lst (pa_cons (pe_call G_law_with (hr.mono (by decide)) (by rfl) D_law_with.g D_law_with.F.kp D_law_with.b .nil pass0 (pa_cons (pv 1) (pa_cons (pv 4) (pa_cons (pv 6) pa_nil)))) (pa_cons (pv 2) (pa_cons (pe_lst (pa_cons pe_str (pa_cons (pv 4) pa_nil))) pa_nil)))))) pss_nil)
    (pss_cons (ps_if (pt_cmpR op_eq (pv 3) pe_int (nomark _)) (pss_one (ps_ret (pe_lst (pa_cons (pv 1) (pa_cons (pe_call G_law_with (hr.mono (by decide)) (by rfl) D_law_with.g D_law_with.F.kp D_law_with.b .nil pass0 (pa_cons (pv 2) (pa_cons (pv 4) (pa_cons (pv 6) pa_nil)))) (pa_cons (pe_lst (pa_cons pe_str (pa_cons (pv 4) pa_nil))) pa_nil)))))) pss_nil)
    (pss_cons (ps_if (pt_cmpR op_eq (pv 3) pe_int (nomark _)) (pss_one (ps_ret (pe_lst (pa_cons (pe_call G_law_with (hr.mono (by decide)) (by rfl) D_law_with.g D_law_with.F.kp D_law_with.b .nil pass0 (pa_cons (pv 1) (pa_cons (pv 4) (pa_cons (pv 6) pa_nil)))) (pa_cons (pe_call G_law_with (hr.mono (by decide)) (by rfl) D_law_with.g D_law_with.F.kp D_law_with.b .nil pass0 (pa_cons (pv 2) (pa_cons (pv 5) (pa_cons (pv 6) pa_nil)))) (pa_cons (pe_lst (pa_cons pe_str (pa_cons (pv 4) pa_nil))) pa_nil)))))) pss_nil)
    (pss_cons (ps_set (i := 7) sc_law_bad_image.nd rfl (.inl rfl) (pe_ix (r := rIxL K) ix_list (pe_lst (pa_cons (pe_callTy (r := rLstQ K) call_lstQ (by rfl) T.b_list (by decide +kernel) (pa_cons (pv 1) pa_nil)) (pa_cons (pe_tup pa_nil) (pa_cons (pe_slice sl_tup (pe_op (r := rCat3 K) op_cat3 (pv 1) (pe_op (r := rRepT K) op_repT (pe_tup (pa_cons (pe_un un_neg pe_int) pa_nil)) pe_int)) po_none (po_some pe_int)) pa_nil)))) (pe_call G_law_take (hr.mono (by decide)) (by rfl) D_law_take.g D_law_take.F.kp D_law_take.b .nil pass0 (pa_cons (pv 0) (pa_cons pe_int pa_nil))) (fun _ _ => rfl)))
    (pss_cons (ps_if (pt_cmpR op_eq (pv 3) pe_int (nomark _)) (pss_one (ps_ret (pe_lst (pa_cons (pv 7) (pa_cons (pv 2) (pa_cons (pe_lst (pa_cons pe_str (pa_cons (pe_un un_neg pe_int) pa_nil))) pa_nil)))))) pss_nil)
    (pss_cons (ps_if (pt_cmpR op_eq (pv 3) pe_int (nomark _)) (pss_one (ps_ret (pe_lst (pa_cons (pv 1) (pa_cons (pv 7) (pa_cons (pe_lst (pa_cons pe_str (pa_cons (pe_un un_neg pe_int) pa_nil))) pa_nil)))))) pss_nil)
    (pss_one (ps_ret (pe_lst (pa_cons (pv 7) (pa_cons (pe_call G_law_with (hr.mono (by decide)) (by rfl) D_law_with.g D_law_with.F.kp D_law_with.b .nil pass0 (pa_cons (pv 2) (pa_cons (pv 4) (pa_cons (pv 6) pa_nil)))) (pa_cons (pe_lst (pa_cons pe_str (pa_cons (pe_un un_neg pe_int) pa_nil))) pa_nil))))))))))))))), ?_⟩
    walk_at "rx"
    refine ⟨B, _, rfl, hB, i0, by omega, by omega, fun H1 t w1 ht => ?_⟩
    have ha1 := ha.wg w1
    walk_at "rx"
    refine ⟨B, _, rfl, hB, w1.i1, by omega, by omega, fun H2 o w2 ho => ?_⟩
    walk_at "rx"
    refine ⟨B, rfl, hB, w2.i1, fun H3 e w3 ne => ?_⟩
    have w03 := (w1.trans w2).trans w3
    have ha3 := ha.wg w03
    have hb3 := hb.wg w03
    have ht2 : t < es.length := by omega
    have ho2 : o < es.length := by omega
    walk_at "rx"
    refine ite2 (fun z => ?_) (fun z => ?_)
    · walk_at "rx"
      refine ⟨a, es, t, e, rfl, ha3, ht2, e12, fun H4 D S4 tD => ?_⟩
      walk_at "rx"
      refine rd_newQ (by simp) fun H5 d S5 nd hd => ?_
      walk_at "rx"
      refine rd_newQ (by simp) fun H6 p S6 np hp => ?_
      exact q H6 p _ _ d sImage t (((w03.same S4).same S5).same S6) hp (S6 _ _ hd) (.inl ⟨rfl, .inl (ib_set ((tD.same S5).same S6) I ht2 ne)⟩)
    walk_at "rx"
    refine ite2 (fun z => ?_) (fun z => ?_)
    · walk_at "rx"
      refine ⟨b, fs, t, e, rfl, hb3, by omega, by omega, fun H4 D S4 tD => ?_⟩
      walk_at "rx"
      refine rd_newQ (by simp) fun H5 d S5 nd hd => ?_
      walk_at "rx"
      refine rd_newQ (by simp) fun H6 p S6 np hp => ?_
      exact q H6 p _ _ d sImage t (((w03.same S4).same S5).same S6) hp (S6 _ _ hd) (.inl ⟨rfl, .inr ⟨es, ⟨a, rfl, ((ha3.same S4).same S5).same S6, I⟩, ib_set ((tD.same S5).same S6) J (by omega) ne⟩⟩)
    walk_at "rx"
    refine ite2 (fun z => ?_) (fun z => ?_)
    · walk_at "rx"
      refine ⟨a, es, t, e, rfl, ha3, ht2, e12, fun H4 D S4 tD => ?_⟩
      have hb4 := hb3.same S4
      walk_at "rx"
      refine ⟨b, fs, o, e, rfl, hb4, by omega, by omega, fun H5 D2 S5 tD2 => ?_⟩
      walk_at "rx"
      refine rd_newQ (by simp) fun H6 d S6 nd hd => ?_
      walk_at "rx"
      refine rd_newQ (by simp) fun H7 p S7 np hp => ?_
      exact q H7 p _ _ d sImage t ((((w03.same S4).same S5).same S6).same S7) hp (S7 _ _ hd) (.inl ⟨rfl, .inl (ib_set (((tD.same S5).same S6).same S7) I ht2 ne)⟩)
    walk_at "rx"
    refine rd_newL fun H4 L S4 nL hL => ?_
    walk_at "rx"
    refine rd_newQ (by simp) fun H5 O S5 nO hO => ?_
    walk_at "rx"
    refine rd_newQ (by simp) fun H6 M S6 nM hM => ?_
    walk_at "rx"
    refine rd_repT (k := 13) hM (by simp) (by decide) (by decide) (by simp) ?_
    refine rd_newL fun H7 R S7 nR hR => ?_
    rw [flat_one, show ((13 : Int)).toNat = 13 from rfl, ← List.map_replicate] at hR
    have tR := TG.of hR
    have ha7 := (((ha3.same S4).same S5).same S6).same S7
    refine rd_cat3O ha7 tR (by rw [List.length_replicate]; omega) fun H8 C S8 tC => ?_
    have lC : (es ++ List.replicate 13 (-1)).length = es.length + 13 := by rw [List.length_append, List.length_replicate]
    walk_at "rx"
    refine rd_slO tC (fun k => by
      have k2 := k.2
      rw [show (13 : Int) = ((13 : Nat) : Int) from rfl, HT.sIx_nat, lC] at k2
      omega) ?_
    refine rd_newL fun H9 X S9 nX hX => ?_
    rw [show (13 : Int) = ((13 : Nat) : Int) from rfl, cutI_to _ (by omega)] at hX
    have tX := TG.of hX
    have lX : ((es ++ List.replicate 13 (-1)).take 13).length = 13 := by rw [List.length_take]; omega
    walk_at "rx"
    refine rd_newQ (by simp) fun H10 O3 S10 nO3 hO3 => ?_
    have S310 := (((((S4.trans S5).trans S6).trans S7).trans S8).trans S9).trans S10
    have w10 := w03.same S310
    have mO3 : O3 ∉ B.m := B.nem (w03.same ((((((S4.trans S5).trans S6).trans S7).trans S8).trans S9))).i1 nO3
    have mL : L ∉ B.m := B.nem w03.i1 nL
    walk_at "rx"
    refine ⟨B, 3, rfl, hB, w10.i1, by decide, by decide, fun H11 c w11 hc => ?_⟩
    have hO11 := w11.lst mO3 hO3
    have hL11 := w11.lst mL (((((((S5.trans S6).trans S7).trans S8).trans S9).trans S10)) _ _ hL)
    have tO11 : TG H11 O [] := ((TG.of (es := []) hO).same (((((S6.trans S7).trans S8).trans S9).trans S10))).wg w11
    have tX11 := (tX.same S10).wg w11
    have ha11 := (ha3.same S310).wg w11
    have hb11 := (hb3.same S310).wg w11
    have w011 := w10.trans w11
    obtain ⟨v, ev, bad⟩ : ∃ v : V, atI [V.ref L, V.ref O, V.ref X] (c : Int) = some v ∧ IB [] H11 v (-1) := by
      have c3 : c = 0 ∨ c = 1 ∨ c = 2 := by omega
      rcases c3 with rfl | rfl | rfl
      · exact ⟨_, rfl, .inl ⟨rfl, .inl ⟨L, _, rfl, List.not_mem_nil, hL11⟩⟩⟩
      · exact ⟨_, rfl, .inl ⟨rfl, .inr ⟨O, _, rfl, tO11, .inl rfl, Nat.zero_le _⟩⟩⟩
      · exact ⟨_, rfl, .inl ⟨rfl, .inr ⟨X, _, rfl, tX11, .inr (by rw [lX]; decide), by rw [lX]; decide⟩⟩⟩
    refine rd_ixL (SqL.of hO11) ev ?_
    walk_at "rx"
    refine ite2 (fun z => ?_) (fun z => ?_)
    · walk_at "rx"
      refine rd_newQ (by simp) fun H12 d S12 nd hd => ?_
      walk_at "rx"
      refine rd_newQ (by simp) fun H13 p S13 np hp => ?_
      exact q H13 p _ _ d sImage (-1) ((w011.same S12).same S13) hp (S13 _ _ hd) (.inl ⟨rfl, .inl ((bad.same S12).same S13)⟩)
    walk_at "rx"
    refine ite2 (fun z => ?_) (fun z => ?_)
    · walk_at "rx"
      refine rd_newQ (by simp) fun H12 d S12 nd hd => ?_
      walk_at "rx"
      refine rd_newQ (by simp) fun H13 p S13 np hp => ?_
      exact q H13 p _ _ d sImage (-1) ((w011.same S12).same S13) hp (S13 _ _ hd) (.inl ⟨rfl, .inr ⟨es, ⟨a, rfl, (ha11.same S12).same S13, I⟩, (bad.same S12).same S13⟩⟩)
    · walk_at "rx"
      refine ⟨b, fs, t, e, rfl, hb11, by omega, by omega, fun H12 D S12 tD => ?_⟩
      walk_at "rx"
      refine rd_newQ (by simp) fun H13 d S13 nd hd => ?_
      walk_at "rx"
      refine rd_newQ (by simp) fun H14 p S14 np hp => ?_
      exact q H14 p _ _ d sImage (-1) (((w011.same S12).same S13).same S14) hp (S14 _ _ hd) (.inl ⟨rfl, .inl (((bad.same S12).same S13).same S14)⟩)
def sp_law_bad (_K : PySem.W.Frag) : Sp := fun vs H Q _ => ∃ (B : Box) (a b : Addr) (es fs : List Int), vs = [.ref B.b, .ref a, .ref b] ∧ IsBk B ∧ B.I H ∧ TG H a es ∧ TG H b fs ∧ Img es ∧ Img fs ∧ Ren es fs ∧
  ∀ H' p v1 v2 d s k, Wg B H H' → H' p = some (.lst [v1, v2, .ref d]) → H' d = some (.lst [.str s, .int k]) → BadC H' v1 v2 s k → Q (.ref p) H'
set_option maxHeartbeats 4000000 in
theorem ok_law_bad (T : Top K mg) {f : Addr} {fd : FuncData} (D : Def K mg "_law_bad" s_law_bad ["box", "before", "after"] f fd) : FnOk P w K mg base CX0 4 f fd ["box", "before", "after"] (sp_law_bad K) := by
  obtain ⟨f_law_take, fd_law_take, D_law_take⟩ := T.d__law_take
  have G_law_take : FnOk P w K mg base CX0 1 f_law_take fd_law_take ["box", "limit"] (sp_law_take K) := ok_law_take T D_law_take
  obtain ⟨f_law_bad_values, fd_law_bad_values, D_law_bad_values⟩ := T.d__law_bad_values
  have G_law_bad_values : FnOk P w K mg base CX0 3 f_law_bad_values fd_law_bad_values ["box", "before", "after", "way"] (sp_law_bad_values K) := ok_law_bad_values T D_law_bad_values
  obtain ⟨f_law_bad_image, fd_law_bad_image, D_law_bad_image⟩ := T.d__law_bad_image
  have G_law_bad_image : FnOk P w K mg base CX0 3 f_law_bad_image fd_law_bad_image ["box", "before", "after", "way"] (sp_law_bad_image K) := ok_law_bad_image T D_law_bad_image
  refine D.F.ok sc_law_bad (fun vs H Q E h => ?_) (fun cdv A outer s H vs Q E hr h => ?_)
  · obtain ⟨B, a, b, es, fs, rfl, _⟩ := h
    rfl
  · obtain ⟨B, a, b, es, fs, rfl, hB, i0, ha, hb, I, J, R, q⟩ := h
    refine ⟨_, (pss_cons (ps_set (i := 3) sc_law_bad.nd rfl (.inl rfl) (pe_call G_law_take (hr.mono (by decide)) (by rfl) D_law_take.g D_law_take.F.kp D_law_take.b .nil pass0 (pa_cons (pv 0) (pa_cons pe_int pa_nil))))
    (pss_cons (ps_if (pt_cmpR op_lt (pv 3) pe_int (nomark _)) (pss_one (ps_ret (pe_call G_law_bad_image hr (by rfl) D_law_bad_image.g D_law_bad_image.F.kp D_law_bad_image.b .nil pass0 (pa_cons (pv 0) (pa_cons (pv 1) (pa_cons (pv 2) (pa_cons (pv 3) pa_nil))))))) pss_nil)
    (pss_one (ps_ret (pe_call G_law_bad_values hr (by rfl) D_law_bad_values.g D_law_bad_values.F.kp D_law_bad_values.b .nil pass0 (pa_cons (pv 0) (pa_cons (pv 1) (pa_cons (pv 2) (pa_cons (pv 3) pa_nil))))))))), ?_⟩
    walk_at "rx"
    refine ⟨B, 11, rfl, hB, i0, by decide, by decide, fun H1 w w1 hw => ?_⟩
    have ha1 := ha.wg w1
    have hb1 := hb.wg w1
    walk_at "rx"
    refine ite2 (fun z => ?_) (fun z => ?_)
    · walk_at "rx"
      exact ⟨B, a, b, es, fs, w, rfl, hB, w1.i1, ha1, hb1, I, J, R.len, fun H' p v1 v2 d s k w2 hp hd bad => q H' p v1 v2 d s k (w1.trans w2) hp hd bad⟩
    · walk_at "rx"
      exact ⟨B, a, b, es, fs, w, rfl, hB, w1.i1, ha1, hb1, I, J, R, fun H' p v1 v2 d s k w2 hp hd bad => q H' p v1 v2 d s k (w1.trans w2) hp hd bad⟩
def sp_law_asked (_K : PySem.W.Frag) : Sp := fun vs H Q _ => ∃ (w : Str) (v1 v2 : V) (s : Str) (k : Int), vs = [.str w, v1, v2] ∧ (w = Str.ofString "check" ∨ w = Str.ofString "chains" ∨ w = Str.ofString "rings" ∨ w = Str.ofString "moving") ∧ BadC H v1 v2 s k ∧ ∀ H' D, Same H H' → H' D = some (.lst [.str s, .int k]) → Q (.ref D) H'
set_option maxHeartbeats 4000000 in
theorem ok_law_asked (T : Top K mg) {f : Addr} {fd : FuncData} (D : Def K mg "_law_asked" s_law_asked ["word", "before", "after"] f fd) : FnOk P w K mg base CX0 7 f fd ["word", "before", "after"] (sp_law_asked K) := by
  obtain ⟨fE_InvalidImage, fdE_InvalidImage, ET_InvalidImage, FE_InvalidImage, bE_InvalidImage⟩ := T.e_InvalidImage
  have GI_InvalidImage := okInit_InvalidImage (P := P) (w := w) (base := base) ET_InvalidImage FE_InvalidImage
  have ET_NotRenaming := T.e_NotRenaming
  obtain ⟨fcheck_renaming, fdcheck_renaming, Dcheck_renaming⟩ := T.d_check_renaming
  have Gcheck_renaming : FnOk P w K mg base (L2.CX P w) 4 fcheck_renaming fdcheck_renaming ["before", "after"] (spcheck_renaming K) := okcheck_renaming T Dcheck_renaming
  obtain ⟨fchains, fdchains, Dchains⟩ := T.d_chains
  have Gchains : FnOk P w K mg base (L2.CX P w) 6 fchains fdchains ["before", "after"] (spchains K) := okchains T Dchains
  obtain ⟨frings, fdrings, Drings⟩ := T.d_rings
  have Grings : FnOk P w K mg base (L2.CX P w) 6 frings fdrings ["before", "after"] (springs K) := okrings T Drings
  obtain ⟨fmoving, fdmoving, Dmoving⟩ := T.d_moving
  have Gmoving : FnOk P w K mg base (L2.CX P w) 5 fmoving fdmoving ["before", "after"] (spmoving K) := okmoving T Dmoving
  obtain ⟨f_law_number, fd_law_number, D_law_number⟩ := T.d__law_number
  have G_law_number : FnOk P w K mg base CX0 1 f_law_number fd_law_number ["told"] (sp_law_number K) := ok_law_number T D_law_number
  have GQ_law_number : FnQ P w K mg base 1 f_law_number fd_law_number ["told"] (sp_law_number K) := okQ_law_number T D_law_number
  refine D.F.ok sc_law_asked (fun vs H Q E h => ?_) (fun cdv A outer s H vs Q E hr h => ?_)
  · obtain ⟨w, v1, v2, s, k, rfl, _⟩ := h
    rfl
  · obtain ⟨w, v1, v2, s, k, rfl, hw, bad, q⟩ := h
    refine ⟨_, (pss_cons (ps_tryM [(.ref (atTop K "InvalidImage"), 3, _), (.ref (atTop K "NotRenaming"), 3, _)] (_) rfl rfl sc_law_asked.nd (fun W pn xe tk => (C8.pss_cut (ps_if (pt_cmpR op_eq (pv 0) pe_str (nomark _)) (pss_one (ps_expr (pe_callS Gcheck_renaming (hr.mono (by decide)) (by rfl) Dcheck_renaming.g Dcheck_renaming.F.kp Dcheck_renaming.b (fun σ => passAt tk σ) (pa_cons (pv 1) (pa_cons (pv 2) pa_nil))))) pss_nil)
    (C8.pss_cut (ps_if (pt_cmpR op_eq (pv 0) pe_str (nomark _)) (pss_one (ps_expr (pe_callS Gchains hr (by rfl) Dchains.g Dchains.F.kp Dchains.b (fun σ => passAt tk σ) (pa_cons (pv 1) (pa_cons (pv 2) pa_nil))))) pss_nil)
    (C8.pss_cut (ps_if (pt_cmpR op_eq (pv 0) pe_str (nomark _)) (pss_one (ps_expr (pe_callS Grings hr (by rfl) Drings.g Drings.F.kp Drings.b (fun σ => passAt tk σ) (pa_cons (pv 1) (pa_cons (pv 2) pa_nil))))) pss_nil)
    (pss_one (ps_if (pt_cmpR op_eq (pv 0) pe_str (nomark _)) (pss_one (ps_expr (pe_callS Gmoving (hr.mono (by decide)) (by rfl) Dmoving.g Dmoving.F.kp Dmoving.b (fun σ => passAt tk σ) (pa_cons (pv 1) (pa_cons (pv 2) pa_nil))))) pss_nil)))))) (.cons ⟨rfl, by decide, .inl ET_InvalidImage.gC⟩ rfl rfl (fun a oe cls d pn hz hf => (pss_cons (ps_if (PW.pt (pw_or (pt_not (pt_val (pe_callB (call_isX ET_InvalidImage.ec ET_InvalidImage.icl hz hf) (by rfl) T.b_isinstance (by decide +kernel) (pa_cons (pv 3) (pa_cons (Rv.pe_k (by rfl) T.c_RedoError) pa_nil))))) (pw_or1 (pt_val (pe_callB (call_isX ET_InvalidImage.ec ET_InvalidImage.icl hz hf) (by rfl) T.b_isinstance (by decide +kernel) (pa_cons (pv 3) (pa_cons (Rv.pe_k (by rfl) T.c_NotRenaming) pa_nil))))))) (pss_one (ps_ret (pe_lst (pa_cons pe_str (pa_cons pe_int pa_nil))))) pss_nil)
    (pss_cons (ps_if (pt_not (pt_val (pe_callQ GQ_law_number (roomQ hr (by decide) _) List.mem_cons_self (by rfl) D_law_number.g D_law_number.F.kp D_law_number.b (pa_cons (pe_xf ET_InvalidImage.xf ET_InvalidImage.noN hz hf (pv 3)) pa_nil)))) (pss_one (ps_ret (pe_lst (pa_cons pe_str (pa_cons pe_int pa_nil))))) pss_nil)
    (pss_one (ps_ret (pe_lst (pa_cons pe_str (pa_cons (pe_xf ET_InvalidImage.xf ET_InvalidImage.noN hz hf (pv 3)) pa_nil)))))))) (.cons ⟨rfl, by decide, .inl ET_NotRenaming.gC⟩ rfl rfl (fun a oe cls d pn hz hf => (pss_cons (ps_if (PW.pt (pw_or (pt_not (pt_val (pe_callB (call_isX0 ET_NotRenaming.ec hz hf) (by rfl) T.b_isinstance (by decide +kernel) (pa_cons (pv 3) (pa_cons (Rv.pe_k (by rfl) T.c_RedoError) pa_nil))))) (pw_or1 (pt_not (pt_val (pe_callB (call_isX0 ET_NotRenaming.ec hz hf) (by rfl) T.b_isinstance (by decide +kernel) (pa_cons (pv 3) (pa_cons (pe_bltn (v := .ty "ValueError") (by rfl) T.b_ValueError (by decide +kernel) rfl) pa_nil)))))))) (pss_one (ps_ret (pe_lst (pa_cons pe_str (pa_cons pe_int pa_nil))))) pss_nil)
    (pss_one (ps_ret (pe_lst (pa_cons pe_str (pa_cons pe_int pa_nil))))))) .nil)))
    (pss_one (ps_ret (pe_lst (pa_cons pe_str (pa_cons pe_int pa_nil)))))), ?_⟩
    have hE : ∀ (E : XK) Qg, (s = sImage → ∀ H' d, Same H H' → H' d = some (.xd [("block", .int k)]) → E (.ref (atTop K "InvalidImage")) (some d) H') → (s = sRen → k = 0 → ∀ H', Same H H' → E (.ref (atTop K "NotRenaming")) none H') → PairS K H v1 v2 E Qg := fun E Qg e1 e2 => by
      rcases bad with ⟨es, b⟩ | ⟨es, ek, fs, gs, i1, i2, n⟩
      · exact .inr (.inl ⟨_, k, b, e1 es⟩)
      · exact .inr (.inr ⟨fs, gs, i1, i2, n, e2 es ek⟩)
    have q1 : s = sImage → ∀ H' D, Same H H' → H' D = some (.lst [.str (Str.ofString "image"), .int k]) → Q (.ref D) H' := fun es H' D S h => q H' D S (by rw [h, es]; rfl)
    have q2 : s = sRen → k = 0 → ∀ H' D, Same H H' → H' D = some (.lst [.str (Str.ofString "renaming"), .int 0]) → Q (.ref D) H' := fun es ek H' D S h => q H' D S (by rw [h, es, ek]; rfl)
    rcases hw with rfl | rfl | rfl | rfl
    · walk_at "rx"
      refine ⟨fun σ' H' => False, ?_, fun σ' H' z => z.elim⟩
      walk_at "rx"
      rw [decide_eq_true (show V.str (Str.ofString "check") = V.str (Str.ofString "check") from rfl)]
      walk_at "rx"
      refine ⟨v1, v2, rfl, hE _ _ (fun es H1 dd S1 hd => ?_) (fun es ek H1 S1 => ?_)⟩
      · refine ⟨true, T.x_InvalidImage_InvalidImage, iteT fun a na => ?_⟩
        walk_at "rx"
        refine ⟨.ref (atTop K "RedoError"), .ref (atTop K "RedoError"), true, dd, _, rfl, fun u h => h, T.k_InvalidImage_RedoError, rfl, rfl, hd, ?_⟩
        walk_at "rx"
        refine ⟨.ref (atTop K "NotRenaming"), .ref (atTop K "NotRenaming"), false, dd, _, rfl, fun u h => h, T.k_InvalidImage_NotRenaming, rfl, rfl, hd, ?_⟩
        walk_at "rx"
        refine ⟨rfl, rfl, dd, _, .int k, rfl, hd, by simp [List.lookup], ?_⟩
        walk_at "rx"
        refine ⟨_, rfl, ?_⟩
        walk_at "rx"
        refine ⟨rfl, rfl, dd, _, .int k, rfl, hd, by simp [List.lookup], ?_⟩
        walk_at "rx"
        refine rd_newQ (by simp) fun H2 p S2 np hp => ?_
        exact q1 es H2 p (S1.trans S2) hp
      · refine ⟨false, T.x_NotRenaming_InvalidImage, iteF ⟨true, T.x_NotRenaming_NotRenaming, iteT fun a na => ?_⟩⟩
        walk_at "rx"
        refine ⟨.ref (atTop K "RedoError"), .ref (atTop K "RedoError"), true, rfl, fun u h => h, T.k_NotRenaming_RedoError, rfl, rfl, ?_⟩
        walk_at "rx"
        refine ⟨.ty "ValueError", .type "ValueError", true, rfl, fun u h => h, T.k_NotRenaming_ValueError, rfl, rfl, ?_⟩
        walk_at "rx"
        refine rd_newQ (by simp) fun H2 p S2 np hp => ?_
        exact q2 es ek H2 p (S1.trans S2) hp
    · walk_at "rx"
      refine ⟨fun σ' H' => σ' = [some (.str (Str.ofString "chains")), some v1, some v2, none] ∧ H = H', ?_, ?_⟩
      · walk_at "rx"
        rw [decide_eq_false (show ¬ V.str (Str.ofString "chains") = V.str (Str.ofString "check") from fun z => absurd (V.str.inj z) (by decide))]
        walk_at "rx"
        exact ⟨rfl, rfl⟩
      rintro σ' H' ⟨rfl, rfl⟩
      walk_at "rx"
      refine ⟨fun σ' H' => False, ?_, fun σ' H' z => z.elim⟩
      walk_at "rx"
      rw [decide_eq_true (show V.str (Str.ofString "chains") = V.str (Str.ofString "chains") from rfl)]
      walk_at "rx"
      refine ⟨v1, v2, rfl, hE _ _ (fun es H1 dd S1 hd => ?_) (fun es ek H1 S1 => ?_)⟩
      · refine ⟨true, T.x_InvalidImage_InvalidImage, iteT fun a na => ?_⟩
        walk_at "rx"
        refine ⟨.ref (atTop K "RedoError"), .ref (atTop K "RedoError"), true, dd, _, rfl, fun u h => h, T.k_InvalidImage_RedoError, rfl, rfl, hd, ?_⟩
        walk_at "rx"
        refine ⟨.ref (atTop K "NotRenaming"), .ref (atTop K "NotRenaming"), false, dd, _, rfl, fun u h => h, T.k_InvalidImage_NotRenaming, rfl, rfl, hd, ?_⟩
        walk_at "rx"
        refine ⟨rfl, rfl, dd, _, .int k, rfl, hd, by simp [List.lookup], ?_⟩
        walk_at "rx"
        refine ⟨_, rfl, ?_⟩
        walk_at "rx"
        refine ⟨rfl, rfl, dd, _, .int k, rfl, hd, by simp [List.lookup], ?_⟩
        walk_at "rx"
        refine rd_newQ (by simp) fun H2 p S2 np hp => ?_
        exact q1 es H2 p (S1.trans S2) hp
      · refine ⟨false, T.x_NotRenaming_InvalidImage, iteF ⟨true, T.x_NotRenaming_NotRenaming, iteT fun a na => ?_⟩⟩
        walk_at "rx"
        refine ⟨.ref (atTop K "RedoError"), .ref (atTop K "RedoError"), true, rfl, fun u h => h, T.k_NotRenaming_RedoError, rfl, rfl, ?_⟩
        walk_at "rx"
        refine ⟨.ty "ValueError", .type "ValueError", true, rfl, fun u h => h, T.k_NotRenaming_ValueError, rfl, rfl, ?_⟩
        walk_at "rx"
        refine rd_newQ (by simp) fun H2 p S2 np hp => ?_
        exact q2 es ek H2 p (S1.trans S2) hp
    · walk_at "rx"
      refine ⟨fun σ' H' => σ' = [some (.str (Str.ofString "rings")), some v1, some v2, none] ∧ H = H', ?_, ?_⟩
      · walk_at "rx"
        rw [decide_eq_false (show ¬ V.str (Str.ofString "rings") = V.str (Str.ofString "check") from fun z => absurd (V.str.inj z) (by decide))]
        walk_at "rx"
        exact ⟨rfl, rfl⟩
      rintro σ' H' ⟨rfl, rfl⟩
      walk_at "rx"
      refine ⟨fun σ' H' => σ' = [some (.str (Str.ofString "rings")), some v1, some v2, none] ∧ H = H', ?_, ?_⟩
      · walk_at "rx"
        rw [decide_eq_false (show ¬ V.str (Str.ofString "rings") = V.str (Str.ofString "chains") from fun z => absurd (V.str.inj z) (by decide))]
        walk_at "rx"
        exact ⟨rfl, rfl⟩
      rintro σ' H' ⟨rfl, rfl⟩
      walk_at "rx"
      refine ⟨fun σ' H' => False, ?_, fun σ' H' z => z.elim⟩
      walk_at "rx"
      rw [decide_eq_true (show V.str (Str.ofString "rings") = V.str (Str.ofString "rings") from rfl)]
      walk_at "rx"
      refine ⟨v1, v2, rfl, hE _ _ (fun es H1 dd S1 hd => ?_) (fun es ek H1 S1 => ?_)⟩
      · refine ⟨true, T.x_InvalidImage_InvalidImage, iteT fun a na => ?_⟩
        walk_at "rx"
        refine ⟨.ref (atTop K "RedoError"), .ref (atTop K "RedoError"), true, dd, _, rfl, fun u h => h, T.k_InvalidImage_RedoError, rfl, rfl, hd, ?_⟩
        walk_at "rx"
        refine ⟨.ref (atTop K "NotRenaming"), .ref (atTop K "NotRenaming"), false, dd, _, rfl, fun u h => h, T.k_InvalidImage_NotRenaming, rfl, rfl, hd, ?_⟩
        walk_at "rx"
        refine ⟨rfl, rfl, dd, _, .int k, rfl, hd, by simp [List.lookup], ?_⟩
        walk_at "rx"
        refine ⟨_, rfl, ?_⟩
        walk_at "rx"
        refine ⟨rfl, rfl, dd, _, .int k, rfl, hd, by simp [List.lookup], ?_⟩
        walk_at "rx"
        refine rd_newQ (by simp) fun H2 p S2 np hp => ?_
        exact q1 es H2 p (S1.trans S2) hp
      · refine ⟨false, T.x_NotRenaming_InvalidImage, iteF ⟨true, T.x_NotRenaming_NotRenaming, iteT fun a na => ?_⟩⟩
        walk_at "rx"
        refine ⟨.ref (atTop K "RedoError"), .ref (atTop K "RedoError"), true, rfl, fun u h => h, T.k_NotRenaming_RedoError, rfl, rfl, ?_⟩
        walk_at "rx"
        refine ⟨.ty "ValueError", .type "ValueError", true, rfl, fun u h => h, T.k_NotRenaming_ValueError, rfl, rfl, ?_⟩
        walk_at "rx"
        refine rd_newQ (by simp) fun H2 p S2 np hp => ?_
        exact q2 es ek H2 p (S1.trans S2) hp
    · walk_at "rx"
      refine ⟨fun σ' H' => σ' = [some (.str (Str.ofString "moving")), some v1, some v2, none] ∧ H = H', ?_, ?_⟩
      · walk_at "rx"
        rw [decide_eq_false (show ¬ V.str (Str.ofString "moving") = V.str (Str.ofString "check") from fun z => absurd (V.str.inj z) (by decide))]
        walk_at "rx"
        exact ⟨rfl, rfl⟩
      rintro σ' H' ⟨rfl, rfl⟩
      walk_at "rx"
      refine ⟨fun σ' H' => σ' = [some (.str (Str.ofString "moving")), some v1, some v2, none] ∧ H = H', ?_, ?_⟩
      · walk_at "rx"
        rw [decide_eq_false (show ¬ V.str (Str.ofString "moving") = V.str (Str.ofString "chains") from fun z => absurd (V.str.inj z) (by decide))]
        walk_at "rx"
        exact ⟨rfl, rfl⟩
      rintro σ' H' ⟨rfl, rfl⟩
      walk_at "rx"
      refine ⟨fun σ' H' => σ' = [some (.str (Str.ofString "moving")), some v1, some v2, none] ∧ H = H', ?_, ?_⟩
      · walk_at "rx"
        rw [decide_eq_false (show ¬ V.str (Str.ofString "moving") = V.str (Str.ofString "rings") from fun z => absurd (V.str.inj z) (by decide))]
        walk_at "rx"
        exact ⟨rfl, rfl⟩
      rintro σ' H' ⟨rfl, rfl⟩
      walk_at "rx"
      rw [decide_eq_true (show V.str (Str.ofString "moving") = V.str (Str.ofString "moving") from rfl)]
      walk_at "rx"
      refine ⟨v1, v2, rfl, hE _ _ (fun es H1 dd S1 hd => ?_) (fun es ek H1 S1 => ?_)⟩
      · refine ⟨true, T.x_InvalidImage_InvalidImage, iteT fun a na => ?_⟩
        walk_at "rx"
        refine ⟨.ref (atTop K "RedoError"), .ref (atTop K "RedoError"), true, dd, _, rfl, fun u h => h, T.k_InvalidImage_RedoError, rfl, rfl, hd, ?_⟩
        walk_at "rx"
        refine ⟨.ref (atTop K "NotRenaming"), .ref (atTop K "NotRenaming"), false, dd, _, rfl, fun u h => h, T.k_InvalidImage_NotRenaming, rfl, rfl, hd, ?_⟩
        walk_at "rx"
        refine ⟨rfl, rfl, dd, _, .int k, rfl, hd, by simp [List.lookup], ?_⟩
        walk_at "rx"
        refine ⟨_, rfl, ?_⟩
        walk_at "rx"
        refine ⟨rfl, rfl, dd, _, .int k, rfl, hd, by simp [List.lookup], ?_⟩
        walk_at "rx"
        refine rd_newQ (by simp) fun H2 p S2 np hp => ?_
        exact q1 es H2 p (S1.trans S2) hp
      · refine ⟨false, T.x_NotRenaming_InvalidImage, iteF ⟨true, T.x_NotRenaming_NotRenaming, iteT fun a na => ?_⟩⟩
        walk_at "rx"
        refine ⟨.ref (atTop K "RedoError"), .ref (atTop K "RedoError"), true, rfl, fun u h => h, T.k_NotRenaming_RedoError, rfl, rfl, ?_⟩
        walk_at "rx"
        refine ⟨.ty "ValueError", .type "ValueError", true, rfl, fun u h => h, T.k_NotRenaming_ValueError, rfl, rfl, ?_⟩
        walk_at "rx"
        refine rd_newQ (by simp) fun H2 p S2 np hp => ?_
        exact q2 es ek H2 p (S1.trans S2) hp
def sp_law_refusals_hold (_K : PySem.W.Frag) : Sp := fun vs H Q _ => ∃ (B : Box) (a b : Addr) (es fs : List Int), vs = [.ref B.b, .ref a, .ref b] ∧ IsBk B ∧ B.I H ∧ RP H a b es fs ∧ ∀ H', Wg B H H' → Q (.bl true) H'
set_option maxHeartbeats 4000000 in
theorem ok_law_refusals_hold (T : Top K mg) {f : Addr} {fd : FuncData} (D : Def K mg "_law_refusals_hold" s_law_refusals_hold ["box", "before", "after"] f fd) : FnOk P w K mg base CX0 8 f fd ["box", "before", "after"] (sp_law_refusals_hold K) := by
  obtain ⟨f_law_bad, fd_law_bad, D_law_bad⟩ := T.d__law_bad
  have G_law_bad : FnOk P w K mg base CX0 4 f_law_bad fd_law_bad ["box", "before", "after"] (sp_law_bad K) := ok_law_bad T D_law_bad
  obtain ⟨f_law_asked, fd_law_asked, D_law_asked⟩ := T.d__law_asked
  have G_law_asked : FnOk P w K mg base CX0 7 f_law_asked fd_law_asked ["word", "before", "after"] (sp_law_asked K) := ok_law_asked T D_law_asked
  refine D.F.ok sc_law_refusals_hold (fun vs H Q E h => ?_) (fun cdv A outer s H vs Q E hr h => ?_)
  · obtain ⟨B, a, b, es, fs, rfl, _⟩ := h
    rfl
  · obtain ⟨B, a, b, es, fs, rfl, hB, i0, r, q⟩ := h
    refine ⟨_, (pss_cons (ps_set (i := 3) sc_law_refusals_hold.nd rfl (.inl rfl) (pe_call G_law_bad (hr.mono (by decide)) (by rfl) D_law_bad.g D_law_bad.F.kp D_law_bad.b .nil pass0 (pa_cons (pv 0) (pa_cons (pv 1) (pa_cons (pv 2) pa_nil)))))
    (pss_cons (ps_for PassesOwn.never rfl (pi_list (pe_lst (pa_cons pe_str (pa_cons pe_str (pa_cons pe_str (pa_cons pe_str pa_nil)))))) (pg_name (i := 4) sc_law_refusals_hold.nd rfl (.inl rfl)) (pss_one (ps_if (pt_cmpR (op_neD hr.units) (pe_call G_law_asked hr (by rfl) D_law_asked.g D_law_asked.F.kp D_law_asked.b .nil pass0 (pa_cons (pv 4) (pa_cons (pe_ix (r := rIxL K) ix_list (pv 3) pe_int (fun _ _ => rfl)) (pa_cons (pe_ix (r := rIxL K) ix_list (pv 3) pe_int (fun _ _ => rfl)) pa_nil)))) (pe_ix (r := rIxL K) ix_list (pv 3) pe_int (fun _ _ => rfl)) (nomark _)) (pss_one (ps_ret pe_bl)) pss_nil)))
    (pss_one (ps_ret pe_bl)))), ?_⟩
    walk_at "rx"
    refine ⟨B, a, b, es, fs, rfl, hB, i0, r.ta, r.tb, r.ia, r.ib, r.rn, fun H1 p v1 v2 d s k w1 hp hd bad => ?_⟩
    have okS : PyData.strOk s = true := by
      rcases bad with ⟨rfl, _⟩ | ⟨rfl, _⟩ <;> decide +kernel
    walk_at "rx"
    refine rd_newQ (by simp) fun H2 W S2 nW hW => ?_
    walk_at "rx"
    refine fr_it (walk_list (xs := [V.str "check", V.str "chains", V.str "rings", V.str "moving"])) (fun i σ H' => ∃ y4, σ = [some (.ref B.b), some (.ref a), some (.ref b), some (.ref p), y4] ∧ Same H2 H') ⟨none, rfl, Same.refl _⟩ (fun i σ H' _ pp => ?_) ?_ ?_
    · obtain ⟨_, _, S⟩ := pp
      exact SqL.of (S _ _ hW)
    · rintro i x σ Ha Hb hi ⟨y4, rfl, S⟩ ⟨eH, ex⟩
      subst eH
      have hp2 := S _ _ (S2 _ _ hp)
      have hd2 := S _ _ (S2 _ _ hd)
      have bad2 := (bad.same S2).same S
      have hi4 : i < 4 := hi
      obtain ⟨wd, rfl, hw⟩ : ∃ wd : Str, x = .str wd ∧ (wd = Str.ofString "check" ∨ wd = Str.ofString "chains" ∨ wd = Str.ofString "rings" ∨ wd = Str.ofString "moving") := by
        have c : i = 0 ∨ i = 1 ∨ i = 2 ∨ i = 3 := by omega
        rcases c with rfl | rfl | rfl | rfl
        · cases ex; exact ⟨_, rfl, .inl rfl⟩
        · cases ex; exact ⟨_, rfl, .inr (.inl rfl)⟩
        · cases ex; exact ⟨_, rfl, .inr (.inr (.inl rfl))⟩
        · cases ex; exact ⟨_, rfl, .inr (.inr (.inr rfl))⟩
      walk_at "rx"
      refine ⟨wd, v1, v2, s, k, rfl, hw, bad2, fun Hc D Sc hD => ?_⟩
      have hpc := Sc _ _ hp2
      have hdc := Sc _ _ hd2
      walk_at "rx"
      have sh : Sh 1 (.list [PyData.str s, PyData.int k]) := Sh.list fun e he => by
        simp only [List.mem_cons, List.not_mem_nil, or_false] at he
        rcases he with rfl | rfl
        · exact Sh.str okS
        · exact Sh.int _
      refine rd_ned (d := .list [PyData.str s, PyData.int k]) (.lst (SqL.of hD) (.cons (.str _) (.cons (.int _) .nil))) (.lst (SqL.of hdc) (.cons (.str _) (.cons (.int _) .nil))) sh (by decide) ?_
      walk_at "rx"
      exact ⟨_, rfl, S.trans Sc⟩
    · rintro σ H3 ⟨y4, rfl, S⟩
      walk_at "rx"
      exact q _ ((w1.same S2).same S)
def sp_is_block (_K : PySem.W.Frag) : Sp := fun vs H Q _ => ∃ t n : Int, vs = [.int t, .int n] ∧ ∀ b, (b = true ↔ 0 ≤ t ∧ t < n) → Q (.bl b) H
set_option maxHeartbeats 4000000 in
theorem ok_is_block (T : Top K mg) {f : Addr} {fd : FuncData} (D : Def K mg "_is_block" s_is_block ["block", "blocks"] f fd) : FnOk P w K mg base CX0 1 f fd ["block", "blocks"] (sp_is_block K) := by
  refine D.F.ok sc_is_block (fun vs H Q E h => ?_) (fun cdv A outer s H vs Q E hr h => ?_)
  · obtain ⟨t, n, rfl, _⟩ := h
    rfl
  · obtain ⟨t, n, rfl, q⟩ := h
    refine ⟨_, (pss_one (ps_ret (pe_and (pe_callB (r := rIsi K) call_isi (by rfl) T.b_isinstance (by decide +kernel) (pa_cons (pv 0) (pa_cons (pe_bltn (v := .ty "int") (by rfl) T.b_int (by decide +kernel) rfl) pa_nil))) (pe_one (pe_chain op_le op_lt pe_int (pv 0) (pv 1)))))), ?_⟩
    walk_at "rn"
    by_cases h0 : 0 ≤ t
    · rw [decide_eq_true h0]
      walk_at "rn"
      exact q (decide (t < n)) ⟨fun k => ⟨h0, of_decide_eq_true k⟩, fun k => decide_eq_true k.2⟩
    · rw [decide_eq_false h0]
      walk_at "rn"
      exact q false ⟨fun k => absurd k Bool.false_ne_true, fun k => absurd k.1 h0⟩
def sp_is_source (_K : PySem.W.Frag) : Sp := fun vs H Q _ => ∃ (w : Str) (t o n : Int), vs = [.str w, .int t, .int o, .int n] ∧ ∀ H' b, Same H H' → (b = true ↔ (w = sClear ∧ o = -1) ∨ ((w = sCopy ∨ w = sMove) ∧ 0 ≤ o ∧ o < n ∧ o ≠ t)) → Q (.bl b) H'
set_option maxHeartbeats 4000000 in
theorem ok_is_source (T : Top K mg) {f : Addr} {fd : FuncData} (D : Def K mg "_is_source" s_is_source ["op", "target", "source", "blocks"] f fd) : FnOk P w K mg base CX0 2 f fd ["op", "target", "source", "blocks"] (sp_is_source K) := by
  obtain ⟨f_is_block, fd_is_block, D_is_block⟩ := T.d__is_block
  have G_is_block : FnOk P w K mg base CX0 1 f_is_block fd_is_block ["block", "blocks"] (sp_is_block K) := ok_is_block T D_is_block
  refine D.F.ok sc_is_source (fun vs H Q E h => ?_) (fun cdv A outer s H vs Q E hr h => ?_)
  · obtain ⟨w, t, o, n, rfl, _⟩ := h
    rfl
  · obtain ⟨w, t, o, n, rfl, q⟩ := h
    refine ⟨_, (pss_cons (ps_if (pt_cmpR op_eq (pv 0) pe_str (nomark _)) (pss_one (ps_ret (pe_and (pe_callB (r := rIsi K) call_isi (by rfl) T.b_isinstance (by decide +kernel) (pa_cons (pv 2) (pa_cons (pe_bltn (v := .ty "int") (by rfl) T.b_int (by decide +kernel) rfl) pa_nil))) (pe_one (pe_cmpR op_eq (pv 2) (Rv.pe_k (by rfl) T.k_EMPTY) (nomark _)))))) pss_nil)
    (pss_one (ps_ret (pe_and (pe_cmpR (r := rIn K false) op_in_seq (pv 0) (pe_tup (pa_cons pe_str (pa_cons pe_str pa_nil))) (by rfl)) (pe_and (pe_call G_is_block hr (by rfl) D_is_block.g D_is_block.F.kp D_is_block.b .nil pass0 (pa_cons (pv 2) (pa_cons (pv 3) pa_nil))) (pe_one (pe_cmpR op_ne (pv 2) (pv 1) (nomark _)))))))), ?_⟩
    walk_at "rn"
    refine ite2 (fun z => ?_) (fun z => ?_)
    · have z1 : w = sClear := V.str.inj (of_decide_eq_true z)
      walk_at "rn"
      refine q _ _ (Same.refl _) ?_
      rw [decide_eq_true_eq, z1]
      exact ⟨fun k => .inl ⟨rfl, V.int.inj k⟩, fun k => by
        rcases k with ⟨_, e⟩ | ⟨e | e, _⟩
        · rw [e]
        · exact absurd e (by decide)
        · exact absurd e (by decide)⟩
    · have z1 : w ≠ sClear := fun k => z (by rw [k]; rfl)
      walk_at "rn"
      refine ⟨len1000 (by simp), fun l nl => ?_⟩
      refine rd_inT upd_same rfl rfl ?_
      have S1 := same_new (o := .tup [V.str (Str.ofString "copy"), .str (Str.ofString "move")]) (Same.refl H) nl
      by_cases hw : w = sCopy ∨ w = sMove
      · have hi : inV (.str w) [V.str (Str.ofString "copy"), .str (Str.ofString "move")] = true := by
          rcases hw with k | k <;> rw [k] <;> decide
        rw [hi]
        walk_at "rn"
        refine ⟨o, n, rfl, fun b hb => ?_⟩
        cases b with
        | true =>
          walk_at "rn"
          refine q _ _ S1 ?_
          have h2 := hb.mp rfl
          by_cases e : o = t
          · rw [decide_eq_true (show V.int o = V.int t from congrArg V.int e)]
            exact ⟨fun k => absurd k (by decide), fun k => by
              rcases k with ⟨e2, _⟩ | ⟨_, _, _, e2⟩
              · exact absurd e2 z1
              · exact absurd e e2⟩
          · rw [decide_eq_false (show ¬ V.int o = V.int t from fun k => e (V.int.inj k))]
            exact ⟨fun _ => .inr ⟨hw, h2.1, h2.2, e⟩, fun _ => rfl⟩
        | false =>
          walk_at "rn"
          refine q _ _ S1 ⟨fun k => absurd k Bool.false_ne_true, fun k => ?_⟩
          rcases k with ⟨e2, _⟩ | ⟨_, e1, e2, _⟩
          · exact absurd e2 z1
          · exact absurd (hb.mpr ⟨e1, e2⟩) Bool.false_ne_true
      · have hi : inV (.str w) [V.str (Str.ofString "copy"), .str (Str.ofString "move")] = false := by
          show ((Str.ofString "copy" == w) || ((Str.ofString "move" == w) || false)) = false
          have h1 : (Str.ofString "copy" == w) = false := beq_eq_false_iff_ne.mpr fun k => hw (.inl k.symm)
          have h2 : (Str.ofString "move" == w) = false := beq_eq_false_iff_ne.mpr fun k => hw (.inr k.symm)
          rw [h1, h2]
          rfl
        rw [hi]
        walk_at "rn"
        refine q _ _ S1 ⟨fun k => absurd k Bool.false_ne_true, fun k => ?_⟩
        rcases k with ⟨e2, _⟩ | ⟨e1, _⟩
        · exact absurd e2 z1
        · exact absurd e1 hw
def sphas_guard_signs (_K : PySem.W.Frag) : Sp := fun vs H Q _ => ∃ gs : List Nat, vs = [.str (txt gs)] ∧ gs.length ≤ 1000 ∧ ∀ H' b, Same H H' → (b = true ↔ ∀ c ∈ gs, Sign c) → Q (.bl b) H'
set_option maxHeartbeats 4000000 in
theorem okhas_guard_signs (T : Top K mg) {f : Addr} {fd : FuncData} (D : Def K mg "has_guard_signs" shas_guard_signs ["text"] f fd) : FnOk P w K mg base CX0 1 f fd ["text"] (sphas_guard_signs K) := by
  refine D.F.ok schas_guard_signs (fun vs H Q E h => ?_) (fun cdv A outer s H vs Q E hr h => ?_)
  · obtain ⟨gs, rfl, _⟩ := h
    rfl
  · obtain ⟨gs, rfl, hl, q⟩ := h
    refine ⟨_, (pss_one (ps_ret (pe_callB (r := rAll K) (cr_all rfl) (by rfl) T.b_all (by decide +kernel) (pa_cons (pe_lc (own := [("sign", 1)]) (g := gName 1) (tt := tYes) rfl schas_guard_signs.nd (pi_str (pv 0))
      (blkOk_by (own := [("sign", 1)]) (N := ["text", "sign"]) (sc := defScope shas_guard_signs) (by decide +kernel)) (fun _ _ _ _ _ => (pg_name (i := 1) schas_guard_signs.nd rfl (.inl rfl))) (fun _ _ _ _ _ => pts_nil)
      (fun _ _ _ _ _ => (pe_cmpR op_sgnQ (pv 1) (Rv.pe_k (by rfl) T.k__GUARD_SIGNS) rfl))) pa_nil)))), ?_⟩
    walk_at "rn"
    refine lc_map (walk_str (z := txt gs)) ((gs.map fun c => decide (c ∈ (Str.ofString ".*-0123456789").cps.toList)).map V.bl) ?_ ?_ (fun _ _ => trivial) ?_ ?_
    · simp [txt]
    · show (txt gs).cps.size ≤ 1000
      have : (txt gs).cps.size = gs.length := by simp [txt]
      omega
    · rintro i x H2 H3 Qc R hi S ⟨rfl, c, ec, rfl⟩ qc
      have h1 : i < gs.length := by simpa [txt] using hi
      have ec2 : gs[i] = c := by
        have z : (txt gs).cps[i]? = some gs[i] := by simp [txt, h1]
        exact Option.some.inj (z.symm.trans ec)
      walk_at "rn"
      refine ⟨rfl, ?_⟩
      walk_at "rn"
      refine qc _ _ (Same.refl _) ?_
      rw [List.map_map, List.getElem?_map, List.getElem?_eq_getElem h1, ec2]
      rfl
    · intro H2 D S nD hD
      refine rd_all hD (q _ _ S ?_)
      have e : ∀ c : Nat, (c ∈ (Str.ofString ".*-0123456789").cps.toList) ↔ Sign c := fun c => by
        show c ∈ [46, 42, 45, 48, 49, 50, 51, 52, 53, 54, 55, 56, 57] ↔ _
        unfold Sign
        simp
        omega
      rw [List.all_map, List.all_eq_true]
      exact ⟨fun k c hc => (e c).mp (of_decide_eq_true (k c hc)), fun k c hc => decide_eq_true ((e c).mpr (k c hc))⟩
def sp_is_guard (_K : PySem.W.Frag) : Sp := fun vs H Q _ => ∃ (gs : List Nat) (n : Nat), vs = [.str (txt gs), .int n] ∧ gs.length ≤ 1000 ∧ ∀ H' b, Same H H' → (b = true ↔ (gs = [] ∨ gs.length = n) ∧ ∀ c ∈ gs, Sign c) → Q (.bl b) H'
set_option maxHeartbeats 4000000 in
theorem ok_is_guard (T : Top K mg) {f : Addr} {fd : FuncData} (D : Def K mg "_is_guard" s_is_guard ["guard", "blocks"] f fd) : FnOk P w K mg base CX0 2 f fd ["guard", "blocks"] (sp_is_guard K) := by
  obtain ⟨fhas_guard_signs, fdhas_guard_signs, Dhas_guard_signs⟩ := T.d_has_guard_signs
  have Ghas_guard_signs : FnOk P w K mg base CX0 1 fhas_guard_signs fdhas_guard_signs ["text"] (sphas_guard_signs K) := okhas_guard_signs T Dhas_guard_signs
  refine D.F.ok sc_is_guard (fun vs H Q E h => ?_) (fun cdv A outer s H vs Q E hr h => ?_)
  · obtain ⟨gs, n, rfl, _⟩ := h
    rfl
  · obtain ⟨gs, n, rfl, gl, q⟩ := h
    have hz := txt_small (cs := gs) gl
    refine ⟨_, (pss_one (ps_ret (pe_and (pe_callB (r := rIsi K) call_isi (by rfl) T.b_isinstance (by decide +kernel) (pa_cons (pv 0) (pa_cons (pe_bltn (v := .ty "str") (by rfl) T.b_str (by decide +kernel) rfl) pa_nil))) (pe_and (pe_cmpR (r := rIn K false) op_in_seq (pe_callB call_lenZ (by rfl) T.b_len PySem.boot_len (pa_cons (pv 0) pa_nil)) (pe_tup (pa_cons pe_int (pa_cons (pv 1) pa_nil))) (by rfl)) (pe_one (pe_call Ghas_guard_signs hr (by rfl) Dhas_guard_signs.g Dhas_guard_signs.F.kp Dhas_guard_signs.b .nil pass0 (pa_cons (pv 0) pa_nil))))))), ?_⟩
    walk_at "rn"
    refine ⟨len1000 (by simp), fun l nl => ?_⟩
    refine rd_inT upd_same rfl rfl ?_
    have S1 := same_new (o := .tup [V.int 0, .int (n : Int)]) (Same.refl H) nl
    have hi : inV (.int ((txt gs).length : Int)) [V.int 0, .int (n : Int)] = decide (gs = [] ∨ gs.length = n) := by
      rw [txt_len, Bool.eq_iff_iff, decide_eq_true_eq]
      show (((0 : Int) == ((gs.length : Nat) : Int)) || (((n : Int) == ((gs.length : Nat) : Int)) || false)) = true ↔ _
      rw [Bool.or_false, Bool.or_eq_true, beq_iff_eq, beq_iff_eq]
      constructor
      · rintro (k | k)
        · exact .inl (List.length_eq_zero_iff.mp (by omega))
        · exact .inr (by omega)
      · rintro (k | k)
        · rw [k]
          exact .inl rfl
        · exact .inr (by omega)
    rw [hi]
    by_cases k : gs = [] ∨ gs.length = n
    · rw [decide_eq_true k]
      walk_at "rn"
      refine ⟨gs, rfl, gl, fun H1 b S2 hb => ?_⟩
      exact q _ _ (S1.trans S2) (hb.trans ⟨fun z => ⟨k, z⟩, fun z => z.2⟩)
    · rw [decide_eq_false k]
      walk_at "rn"
      exact q _ _ S1 ⟨fun z => absurd z Bool.false_ne_true, fun z => absurd z.1 k⟩
def sp_is_line (_K : PySem.W.Frag) : Sp := fun vs H Q _ => ∃ (v : V) (it : Im) (n : Nat), vs = [v, .int n] ∧ ImAt [] H v it ∧ Wf it ∧ ∀ H' b, Same H H' → (b = true ↔ Good n it) → Q (.bl b) H'
set_option maxHeartbeats 4000000 in
theorem ok_is_line (T : Top K mg) {f : Addr} {fd : FuncData} (D : Def K mg "_is_line" s_is_line ["line", "blocks"] f fd) : FnOk P w K mg base CX0 3 f fd ["line", "blocks"] (sp_is_line K) := by
  obtain ⟨f_is_block, fd_is_block, D_is_block⟩ := T.d__is_block
  have G_is_block : FnOk P w K mg base CX0 1 f_is_block fd_is_block ["block", "blocks"] (sp_is_block K) := ok_is_block T D_is_block
  obtain ⟨f_is_source, fd_is_source, D_is_source⟩ := T.d__is_source
  have G_is_source : FnOk P w K mg base CX0 2 f_is_source fd_is_source ["op", "target", "source", "blocks"] (sp_is_source K) := ok_is_source T D_is_source
  obtain ⟨f_is_guard, fd_is_guard, D_is_guard⟩ := T.d__is_guard
  have G_is_guard : FnOk P w K mg base CX0 2 f_is_guard fd_is_guard ["guard", "blocks"] (sp_is_guard K) := ok_is_guard T D_is_guard
  refine D.F.ok sc_is_line (fun vs H Q E h => ?_) (fun cdv A outer s H vs Q E hr h => ?_)
  · obtain ⟨v, it, n, rfl, _⟩ := h
    rfl
  · obtain ⟨v, it, n, rfl, hI, wf, q⟩ := h
    refine ⟨_, (pss_cons (ps_if (PW.pt (pw_or (pt_not (pt_val (pe_callB (r := rIsi K) call_isi (by rfl) T.b_isinstance (by decide +kernel) (pa_cons (pv 0) (pa_cons (pe_bltn (v := .ty "tuple") (by rfl) T.b_tuple (by decide +kernel) rfl) pa_nil))))) (pw_or1 (pt_cmpR op_ne (pe_callB (r := rLenQ K) call_lenQ (by rfl) T.b_len PySem.boot_len (pa_cons (pv 0) pa_nil)) pe_int (nomark _))))) (pss_one (ps_ret pe_bl)) pss_nil)
    (pss_cons (ps_asg (pv 0) (pg_tup rfl (pgs_cons (pg_name (i := 2) sc_is_line.nd rfl (.inl rfl)) (pgs_cons (pg_name (i := 3) sc_is_line.nd rfl (.inl rfl)) (pgs_cons (pg_name (i := 4) sc_is_line.nd rfl (.inl rfl)) (pgs_cons (pg_name (i := 5) sc_is_line.nd rfl (.inl rfl)) pgs_nil))))))
    (pss_one (ps_ret (pe_and (pe_call G_is_block (hr.mono (by decide)) (by rfl) D_is_block.g D_is_block.F.kp D_is_block.b .nil pass0 (pa_cons (pv 3) (pa_cons (pv 1) pa_nil))) (pe_and (pe_call G_is_source hr (by rfl) D_is_source.g D_is_source.F.kp D_is_source.b .nil pass0 (pa_cons (pv 2) (pa_cons (pv 3) (pa_cons (pv 4) (pa_cons (pv 1) pa_nil))))) (pe_one (pe_call G_is_guard hr (by rfl) D_is_guard.g D_is_guard.F.kp D_is_guard.b .nil pass0 (pa_cons (pv 5) (pa_cons (pv 1) pa_nil)))))))))), ?_⟩
    cases it with
    | non =>
      obtain rfl : v = .non := hI
      walk_at "rn"
      exact q _ _ (Same.refl _) ⟨fun z => absurd z Bool.false_ne_true, fun ⟨r, e, _⟩ => nomatch e⟩
    | lst xs =>
      obtain ⟨p, rfl, _, hp⟩ := hI
      walk_at "rn"
      refine rd_isiL hp kit_lt ?_
      walk_at "rn"
      exact q _ _ (Same.refl _) ⟨fun z => absurd z Bool.false_ne_true, fun ⟨r, e, _⟩ => nomatch e⟩
    | tup xs =>
      obtain ⟨p, rfl, hp⟩ := hI
      walk_at "rn"
      by_cases l4 : xs.length = 4
      · obtain ⟨r, rfl, gl⟩ := wf l4
        have hL : H p = some (.tup [.str r.w, .int r.t, .int r.o, .str (txt r.g)]) := hp
        rw [decide_eq_true (show V.int ((r.vals.length : Nat) : Int) = V.int 4 from rfl)]
        walk_at "rn"
        refine ⟨r.t, n, rfl, fun b1 h1 => ?_⟩
        have fin : ∀ b, (b = true ↔ ((0 ≤ r.t ∧ r.t < n) ∧ ((r.w = sClear ∧ r.o = -1) ∨ ((r.w = sCopy ∨ r.w = sMove) ∧ 0 ≤ r.o ∧ r.o < n ∧ r.o ≠ r.t)) ∧ ((r.g = [] ∨ r.g.length = n) ∧ ∀ c ∈ r.g, Sign c))) → (b = true ↔ Good n (.tup r.vals)) := fun b hb => by
          rw [good_vals, hb]
          exact ⟨fun ⟨a1, a2, a3⟩ => ⟨a1.1, a1.2, a2, a3.1, a3.2⟩, fun k => ⟨⟨k.t0, k.t1⟩, k.word, k.gl, k.gs⟩⟩
        cases b1 with
        | false =>
          walk_at "rn"
          exact q _ _ (Same.refl _) (fin _ ⟨fun z => absurd z Bool.false_ne_true, fun z => h1.mpr z.1⟩)
        | true =>
          walk_at "rn"
          refine ⟨r.w, r.t, r.o, n, rfl, fun H1 b2 S1 h2 => ?_⟩
          cases b2 with
          | false =>
            walk_at "rn"
            exact q _ _ S1 (fin _ ⟨fun z => absurd z Bool.false_ne_true, fun z => h2.mpr z.2.1⟩)
          | true =>
            walk_at "rn"
            refine ⟨r.g, n, rfl, gl, fun H2 b3 S2 h3 => ?_⟩
            exact q _ _ (S1.trans S2) (fin _ (h3.trans ⟨fun z => ⟨h1.mp rfl, h2.mp rfl, z⟩, fun z => z.2.2⟩))
      · rw [decide_eq_false (show ¬ V.int ((xs.length : Nat) : Int) = V.int 4 from fun z => l4 (by have := V.int.inj z; omega))]
        walk_at "rn"
        refine q _ _ (Same.refl _) ⟨fun z => absurd z Bool.false_ne_true, fun ⟨r, e, _⟩ => ?_⟩
        exact absurd (by rw [Im.tup.inj e]; rfl) l4
def spcheck_script (K : PySem.W.Frag) : Sp := fun vs H Q E => ∃ (v u : V), vs = [v, u] ∧
  ((∃ es rs, IG H u es ∧ ScrYes H es.length v rs ∧ ∀ H', Same H H' → Q .non H') ∨
   (∃ M k, IB M H u k ∧ ∀ H' d, Same H H' → H' d = some (.xd [("block", .int k)]) → E (.ref (atTop K "InvalidImage")) (some d) H') ∨
   (∃ es k, IG H u es ∧ ScrNo H es.length v k ∧ ∀ H' d, Same H H' → H' d = some (.xd [("at", .int k)]) → E (.ref (atTop K "InvalidLine")) (some d) H'))
set_option maxHeartbeats 4000000 in
theorem okcheck_script (T : Top K mg) {f : Addr} {fd : FuncData} (D : Def K mg "check_script" scheck_script ["script", "image"] f fd) : FnOk P w K mg base (L2.CX P w) 4 f fd ["script", "image"] (spcheck_script K) := by
  obtain ⟨fE_InvalidLine, fdE_InvalidLine, ET_InvalidLine, FE_InvalidLine, bE_InvalidLine⟩ := T.e_InvalidLine
  have GI_InvalidLine := okInit_InvalidLine (P := P) (w := w) (base := base) ET_InvalidLine FE_InvalidLine
  obtain ⟨fcheck_image, fdcheck_image, Dcheck_image⟩ := T.d_check_image
  have Gcheck_image : FnOk P w K mg base (L2.CX P w) 3 fcheck_image fdcheck_image ["image"] (spcheck_image K) := okcheck_image T Dcheck_image
  obtain ⟨f_is_line, fd_is_line, D_is_line⟩ := T.d__is_line
  have G_is_line : FnOk P w K mg base CX0 3 f_is_line fd_is_line ["line", "blocks"] (sp_is_line K) := ok_is_line T D_is_line
  refine D.F.okX sccheck_script (fun vs H Q E h => ?_) (fun cdv A outer s H vs Q E hr h => ?_)
  · obtain ⟨v, u, rfl, _⟩ := h
    rfl
  · obtain ⟨v, u, rfl, hc0⟩ := h
    refine ⟨_, (pss_cons (ps_expr (pe_callS Gcheck_image hr (by rfl) Dcheck_image.g Dcheck_image.F.kp Dcheck_image.b (fun σ => passAt (takes_of rfl rfl rfl rfl) σ) (pa_cons (pv 1) pa_nil)))
    (pss_cons (ps_if (PW.pt (pw_or (pt_not (pt_val (pe_callB (r := rIsi K) call_isi (by rfl) T.b_isinstance (by decide +kernel) (pa_cons (pv 0) (pa_cons (pe_bltn (v := .ty "list") (by rfl) T.b_list (by decide +kernel) rfl) pa_nil))))) (pw_or1 (pt_cmpR op_gt (pe_callB (r := rLenQ K) call_lenQ (by rfl) T.b_len PySem.boot_len (pa_cons (pv 0) pa_nil)) (Rv.pe_k (by rfl) T.k_MOST_LINES) (nomark _))))) (pss_one (ps_raiseQ rfl (takes_of rfl rfl rfl rfl) (pmk_oex ET_InvalidLine.ox ET_InvalidLine.iC ET_InvalidLine.tI GI_InvalidLine (hr.mono (by decide)) bE_InvalidLine .nil pass0 (by rfl) ET_InvalidLine.gC (pa_cons (pe_un un_neg pe_int) pa_nil)))) pss_nil)
    (pss_one (ps_for (passes_of rfl) rfl (pi_enum (by rfl) T.b_enumerate (pa_cons (pv 0) pa_nil)) (pg_tup rfl (pgs_cons (pg_name (i := 2) sccheck_script.nd rfl (.inl rfl)) (pgs_cons (pg_name (i := 3) sccheck_script.nd rfl (.inl rfl)) pgs_nil))) (pss_one (ps_if (pt_not (pt_val (pe_call G_is_line hr (by rfl) D_is_line.g D_is_line.F.kp D_is_line.b .nil pass0 (pa_cons (pv 3) (pa_cons (pe_callB (r := rLenQ K) call_lenQ (by rfl) T.b_len PySem.boot_len (pa_cons (pv 1) pa_nil)) pa_nil))))) (pss_one (ps_raiseQ rfl (takes_of rfl rfl rfl rfl) (pmk_oex ET_InvalidLine.ox ET_InvalidLine.iC ET_InvalidLine.tI GI_InvalidLine (hr.mono (by decide)) bE_InvalidLine .nil pass0 (by rfl) ET_InvalidLine.gC (pa_cons (pv 2) pa_nil)))) pss_nil)))))), ?_⟩
    walk_at "rx"
    have hc2 : (∃ es, IG H u es ∧ ((∃ rs, ScrYes H es.length v rs ∧ ∀ H', Same H H' → Q .non H') ∨ (∃ k, ScrNo H es.length v k ∧ ∀ H' d, Same H H' → H' d = some (.xd [("at", .int k)]) → E (.ref (atTop K "InvalidLine")) (some d) H'))) ∨ (∃ M k, IB M H u k ∧ ∀ H' d, Same H H' → H' d = some (.xd [("block", .int k)]) → E (.ref (atTop K "InvalidImage")) (some d) H') := by
      rcases hc0 with ⟨es, rs, i, y, q⟩ | h | ⟨es, k, i, n, q⟩
      · exact .inl ⟨es, i, .inl ⟨rs, y, q⟩⟩
      · exact .inr h
      · exact .inl ⟨es, i, .inr ⟨k, n, q⟩⟩
    rcases hc2 with ⟨es, hE, hc⟩ | ⟨M, k, bad, q⟩
    rotate_left
    · exact ⟨u, rfl, .inr ⟨M, k, bad, q⟩⟩
    refine ⟨u, rfl, .inl ⟨es, hE, fun H1 S1 => ?_⟩⟩
    obtain ⟨a, rfl, hE1, I⟩ := hE.same S1
    have neg : ∀ {H2}, Same H1 H2 → ScrNo H es.length v (-1) → (∀ k, ScrNo H es.length v k → k = -1) → (∀ rs, ¬ ScrYes H es.length v rs) → ∀ H' d, Same H2 H' → H' d = some (.xd [("at", .int (-1))]) → E (.ref (atTop K "InvalidLine")) (some d) H' := fun S2 _ u ny H' d S3 hd => by
      rcases hc with ⟨rs, y, _⟩ | ⟨k, no, q⟩
      · exact absurd y (ny rs)
      · rw [u k no] at q
        exact q H' d ((S1.trans S2).trans S3) hd
    by_cases hv : ∃ l vs, v = .ref l ∧ H l = some (.lst vs) ∧ vs.length ≤ 1000
    · obtain ⟨l, vs, rfl, hl, l1000⟩ := hv
      have hl1 := S1 _ _ hl
      walk_at "rx"
      by_cases l60 : 60 < vs.length
      · rw [decide_eq_true (show (60 : Int) < ((vs.length : Nat) : Int) from by omega)]
        walk_at "rx"
        refine mkErr fun H8 d S8 hd => neg (Same.refl _) (.inl ⟨rfl, .inr (.inr ⟨l, vs, rfl, hl, l60, l1000⟩)⟩) (fun k no => ?_) (fun rs y => ?_) H8 d S8 hd
        · rcases no with ⟨e, _⟩ | ⟨l2, vs2, is, j, e, h1, h2, h3, _⟩
          · exact e
          · cases e
            rw [hl] at h1
            cases h1
            have := h2.len
            omega
        · obtain ⟨l2, as, e, h1, h2, h3, _⟩ := y
          cases e
          rw [hl] at h1
          cases h1
          have := h2.1
          rw [rows_len] at this
          rw [List.length_map] at l60
          omega
      · rw [decide_eq_false (show ¬ (60 : Int) < ((vs.length : Nat) : Int) from by omega)]
        obtain ⟨is, hi, wf, hQ, hX⟩ : ∃ is : List Im, ImsAt [] H vs is ∧ (∀ it ∈ is, Wf it) ∧ ((∀ (i : Nat) it, is[i]? = some it → Good es.length it) → ∀ H', Same H H' → Q .non H') ∧
            (∀ (j : Nat) it, is[j]? = some it → ¬ Good es.length it → (∀ (i : Nat) it, i < j → is[i]? = some it → Good es.length it) → ∀ H' d, Same H H' → H' d = some (.xd [("at", .int (j : Int))]) → E (.ref (atTop K "InvalidLine")) (some d) H') := by
          rcases hc with ⟨rs, ⟨l2, as, e, h1, h2, h3, h4⟩, q⟩ | ⟨k, no, q⟩
          · cases e
            rw [hl] at h1
            cases h1
            refine ⟨_, h2.ims, fun it hit => ?_, fun _ => q, fun j it ej ng _ => ?_⟩
            · obtain ⟨r, hr, rfl⟩ := List.mem_map.mp hit
              exact fun _ => ⟨r, rfl, by have := (h4 r hr).gle; have := I.2.1; omega⟩
            · rw [List.getElem?_map] at ej
              cases e2 : rs[j]? with
              | none => rw [e2] at ej; cases ej
              | some r =>
                rw [e2] at ej
                cases ej
                exact absurd ⟨r, rfl, h4 r (List.mem_of_getElem? e2)⟩ ng
          · rcases no with ⟨_, h | ⟨p, xs, e2, h⟩ | ⟨l2, vs2, e2, h, h2, h3⟩⟩ | ⟨l2, vs2, is, j, e, h1, h2, h3, h4, ek, ⟨it, h5, h6⟩, h7⟩
            · cases h
            · cases e2
              rw [hl] at h
              cases h
            · cases e2
              rw [hl] at h
              cases h
              omega
            · cases e
              rw [hl] at h1
              cases h1
              refine ⟨is, h2, h4, fun g => absurd (g j it h5) h6, fun j2 it2 e2 ng g2 => ?_⟩
              have ej : j2 = j := by
                rcases Nat.lt_trichotomy j2 j with z | z | z
                · exact absurd (h7 j2 it2 z e2) ng
                · exact z
                · exact absurd (g2 j it z h5) h6
              subst ej
              rw [ek] at q
              exact q
        walk_at "rx"
        refine fr_it (walk_enum (xs := vs)) (fun i σ H' => ∃ y2 y3, σ = [some (.ref l), some (.ref a), y2, y3] ∧ Same H1 H' ∧ ∀ (j : Nat) it, j < i → is[j]? = some it → Good es.length it) ⟨none, none, rfl, Same.refl _, fun j it z => absurd z (Nat.not_lt_zero j)⟩ (fun i σ H' _ p => ?_) ?_ ?_
        · obtain ⟨_, _, _, S, _⟩ := p
          exact SqL.of (S _ _ hl1)
        · rintro i x σ H2 H3 hil ⟨y2, y3, rfl, S, g⟩ ⟨t, u, w, rfl, nT, rfl, e1, e2⟩
          cases e1
          obtain ⟨it, ei⟩ : ∃ it, is[i]? = some it := ⟨is[i]'(by rw [← hi.len]; exact hil), List.getElem?_eq_getElem (by rw [← hi.len]; exact hil)⟩
          have S3 := same_new (o := .tup [.int (i : Nat), w]) S nT
          obtain ⟨w2, ew, hw⟩ := (hi.same (S1.trans S3)).at_ i it ei
          have e3 : vs[i]? = some w := e2
          rw [e3] at ew
          cases ew
          have hE3 := hE1.same S3
          walk_at "rx"
          refine ⟨w, it, es.length, rfl, hw, wf it (List.mem_of_getElem? ei), fun H4 b S4 hb => ?_⟩
          cases b with
          | true =>
            walk_at "rx"
            refine ⟨_, _, rfl, S3.trans S4, fun j it2 hj e4 => ?_⟩
            rcases Nat.lt_or_ge j i with z | z
            · exact g j it2 z e4
            · have : j = i := by omega
              subst this
              rw [ei] at e4
              cases e4
              exact hb.mp rfl
          | false =>
            walk_at "rx"
            refine mkErr fun H8 d S8 hd => ?_
            exact hX i it ei (fun z => absurd (hb.mpr z) Bool.false_ne_true) (fun j it2 hj e4 => g j it2 hj e4) H8 d ((S1.trans (S3.trans S4)).trans S8) hd
        · rintro σ H2 ⟨y2, y3, rfl, S, g⟩
          refine hQ (fun i it e => g i it ?_ e) _ (S1.trans S)
          rw [hi.len]
          exact (List.getElem?_eq_some_iff.mp e).1
    · have ny : ∀ rs, ¬ ScrYes H es.length v rs := fun rs ⟨l, as, e, h1, h2, h3, _⟩ => hv ⟨l, _, e, h1, by have := h2.1; rw [rows_len] at this; rw [List.length_map]; omega⟩
      have u : ∀ k, ScrNo H es.length v k → k = -1 := fun k no => by
        rcases no with ⟨e, _⟩ | ⟨l2, vs2, is, j, e, h1, h2, h3, _⟩
        · exact e
        · exact absurd ⟨l2, vs2, e, h1, by have := h2.len; omega⟩ hv
      obtain ⟨k, no, _⟩ := hc.resolve_left (fun ⟨rs, y, _⟩ => ny rs y)
      rcases no with ⟨_, rfl | ⟨p, xs, rfl, h⟩ | ⟨l2, vs2, e2, h, h2, h3⟩⟩ | ⟨l2, vs2, is, j, e, h1, h2, h3, _⟩
      · walk_at "rx"
        exact mkErr fun H8 d S8 hd => neg (Same.refl _) (.inl ⟨rfl, .inl rfl⟩) u ny H8 d S8 hd
      · have hp := S1 _ _ h
        walk_at "rx"
        refine rd_isiT hp kit_tl ?_
        walk_at "rx"
        exact mkErr fun H8 d S8 hd => neg (Same.refl _) (.inl ⟨rfl, .inr (.inl ⟨p, xs, rfl, h⟩)⟩) u ny H8 d S8 hd
      · exact absurd ⟨l2, vs2, e2, h, h3⟩ hv
      · exact absurd ⟨l2, vs2, e, h1, by have := h2.len; omega⟩ hv
def sp_is_careful (_K : PySem.W.Frag) : Sp := fun vs H Q _ => ∃ (a : Addr) (r : Ln) (n : Nat), vs = [.ref a] ∧ H a = some (.tup r.vals) ∧ LnOk n r ∧ n ≤ 12 ∧ ∀ b, (b = true ↔ Care r) → Q (.bl b) H
set_option maxHeartbeats 4000000 in
theorem ok_is_careful (T : Top K mg) {f : Addr} {fd : FuncData} (D : Def K mg "_is_careful" s_is_careful ["line"] f fd) : FnOk P w K mg base CX0 1 f fd ["line"] (sp_is_careful K) := by
  refine D.F.ok sc_is_careful (fun vs H Q E h => ?_) (fun cdv A outer s H vs Q E hr h => ?_)
  · obtain ⟨a, r, n, rfl, _⟩ := h
    rfl
  · obtain ⟨a, r, n, rfl, ha, ok, n12, q⟩ := h
    have hL : H a = some (.tup [.str r.w, .int r.t, .int r.o, .str (txt r.g)]) := ha
    have gl := ok.gle
    refine ⟨_, (pss_cons (ps_asg (pv 0) (pg_tup rfl (pgs_cons (pg_name (i := 1) sc_is_careful.nd rfl (.inl rfl)) (pgs_cons (pg_name (i := 2) sc_is_careful.nd rfl (.inl rfl)) (pgs_cons (pg_name (i := 3) sc_is_careful.nd rfl (.inl rfl)) (pgs_cons (pg_name (i := 4) sc_is_careful.nd rfl (.inl rfl)) pgs_nil))))))
    (pss_one (ps_ret (pe_and (pe_cmpR op_eq (pv 1) pe_str (nomark _)) (pe_and (pe_cmpR op_ne (pv 4) pe_str (nomark _)) (pe_one (pe_cmpR op_eq (pe_ix ix_str (pv 4) (pv 2) (fun _ _ => rfl)) pe_str (nomark _)))))))), ?_⟩
    walk_at "rx"
    by_cases z1 : r.w = sMove
    · rw [decide_eq_true (show V.str r.w = V.str (Str.ofString "move") from by rw [z1]; rfl)]
      walk_at "rx"
      by_cases z2 : r.g = []
      · rw [decide_eq_true (show V.str (txt r.g) = V.str (Str.ofString "") from by rw [z2]; rfl)]
        walk_at "rx"
        exact q false ⟨fun k => absurd k Bool.false_ne_true, fun k => absurd z2 k.2.1⟩
      · rw [decide_eq_false (show ¬ V.str (txt r.g) = V.str (Str.ofString "") from fun w => z2 (txt_inj (V.str.inj w)))]
        walk_at "rx"
        have gn := ok.gl.resolve_left z2
        have e := atI_cods (cs := r.g) (k := r.t) ok.t0 (by rw [gn]; exact ok.t1)
        have hz := txt_small (cs := r.g) (by omega)
        walk_at "rx"
        refine q _ ?_
        rw [decide_eq_true_eq]
        exact ⟨fun k => ⟨z1, z2, sxx.mp k⟩, fun k => sxx.mpr k.2.2⟩
    · rw [decide_eq_false (show ¬ V.str r.w = V.str (Str.ofString "move") from fun w => z1 (V.str.inj w))]
      walk_at "rx"
      exact q false ⟨fun k => absurd k Bool.false_ne_true, fun k => absurd k.1 z1⟩
def spcheck_careful (K : PySem.W.Frag) : Sp := fun vs H Q E => ∃ (v u : V), vs = [v, u] ∧
  ((∃ es rs, IG H u es ∧ ScrYes H es.length v rs ∧ (∀ r ∈ rs, Care r) ∧ ∀ H', Same H H' → Q .non H') ∨
   (∃ M k, IB M H u k ∧ ∀ H' d, Same H H' → H' d = some (.xd [("block", .int k)]) → E (.ref (atTop K "InvalidImage")) (some d) H') ∨
   (∃ es k, IG H u es ∧ ScrNo H es.length v k ∧ ∀ H' d, Same H H' → H' d = some (.xd [("at", .int k)]) → E (.ref (atTop K "InvalidLine")) (some d) H') ∨
   (∃ (es : List Int) (rs : List Ln) (j : Nat), IG H u es ∧ ScrYes H es.length v rs ∧ (∃ r, rs[j]? = some r ∧ ¬ Care r) ∧ (∀ (i : Nat) r, i < j → rs[i]? = some r → Care r) ∧ ∀ H' d, Same H H' → H' d = some (.xd [("at", .int (j : Int))]) → E (.ref (atTop K "NotCareful")) (some d) H'))
set_option maxHeartbeats 4000000 in
theorem okcheck_careful (T : Top K mg) {f : Addr} {fd : FuncData} (D : Def K mg "check_careful" scheck_careful ["script", "image"] f fd) : FnOk P w K mg base (L2.CX P w) 5 f fd ["script", "image"] (spcheck_careful K) := by
  obtain ⟨fE_NotCareful, fdE_NotCareful, ET_NotCareful, FE_NotCareful, bE_NotCareful⟩ := T.e_NotCareful
  have GI_NotCareful := okInit_NotCareful (P := P) (w := w) (base := base) ET_NotCareful FE_NotCareful
  obtain ⟨fcheck_script, fdcheck_script, Dcheck_script⟩ := T.d_check_script
  have Gcheck_script : FnOk P w K mg base (L2.CX P w) 4 fcheck_script fdcheck_script ["script", "image"] (spcheck_script K) := okcheck_script T Dcheck_script
  obtain ⟨f_is_careful, fd_is_careful, D_is_careful⟩ := T.d__is_careful
  have G_is_careful : FnOk P w K mg base CX0 1 f_is_careful fd_is_careful ["line"] (sp_is_careful K) := ok_is_careful T D_is_careful
  refine D.F.okX sccheck_careful (fun vs H Q E h => ?_) (fun cdv A outer s H vs Q E hr h => ?_)
  · obtain ⟨v, u, rfl, _⟩ := h
    rfl
  · obtain ⟨v, u, rfl, hc0⟩ := h
    refine ⟨_, (pss_cons (ps_expr (pe_callS Gcheck_script hr (by rfl) Dcheck_script.g Dcheck_script.F.kp Dcheck_script.b (fun σ => passAt (takes_of rfl rfl rfl rfl) σ) (pa_cons (pv 0) (pa_cons (pv 1) pa_nil))))
    (pss_one (ps_for (passes_of rfl) rfl (pi_enum (by rfl) T.b_enumerate (pa_cons (pv 0) pa_nil)) (pg_tup rfl (pgs_cons (pg_name (i := 2) sccheck_careful.nd rfl (.inl rfl)) (pgs_cons (pg_name (i := 3) sccheck_careful.nd rfl (.inl rfl)) pgs_nil))) (pss_one (ps_if (pt_not (pt_val (pe_call G_is_careful (hr.mono (by decide)) (by rfl) D_is_careful.g D_is_careful.F.kp D_is_careful.b .nil pass0 (pa_cons (pv 3) pa_nil)))) (pss_one (ps_raiseQ rfl (takes_of rfl rfl rfl rfl) (pmk_oex ET_NotCareful.ox ET_NotCareful.iC ET_NotCareful.tI GI_NotCareful (hr.mono (by decide)) bE_NotCareful .nil pass0 (by rfl) ET_NotCareful.gC (pa_cons (pv 2) pa_nil)))) pss_nil))))), ?_⟩
    walk_at "rx"
    refine ⟨v, u, rfl, ?_⟩
    have hc2 : (∃ es rs, IG H u es ∧ ScrYes H es.length v rs ∧ ((∀ (i : Nat) r, rs[i]? = some r → Care r) → ∀ H', Same H H' → Q .non H') ∧ (∀ (j : Nat) r, rs[j]? = some r → ¬ Care r → (∀ (i : Nat) r, i < j → rs[i]? = some r → Care r) → ∀ H' d, Same H H' → H' d = some (.xd [("at", .int (j : Int))]) → E (.ref (atTop K "NotCareful")) (some d) H')) ∨
        ((∃ M k, IB M H u k ∧ ∀ H' d, Same H H' → H' d = some (.xd [("block", .int k)]) → E (.ref (atTop K "InvalidImage")) (some d) H') ∨
         (∃ es k, IG H u es ∧ ScrNo H es.length v k ∧ ∀ H' d, Same H H' → H' d = some (.xd [("at", .int k)]) → E (.ref (atTop K "InvalidLine")) (some d) H')) := by
      rcases hc0 with ⟨es, rs, i, y, c, q⟩ | h | h | ⟨es, rs, j, i, y, ⟨r, e, nc⟩, bf, q⟩
      · exact .inl ⟨es, rs, i, y, fun _ => q, fun j r e n => absurd (c r (List.mem_of_getElem? e)) n⟩
      · exact .inr (.inl h)
      · exact .inr (.inr h)
      · refine .inl ⟨es, rs, i, y, fun g => absurd (g j r e) nc, fun j2 r2 e2 n2 b2 => ?_⟩
        have : j2 = j := by
          rcases Nat.lt_trichotomy j2 j with z | z | z
          · exact absurd (bf j2 r2 z e2) n2
          · exact z
          · exact absurd (b2 j r z e) nc
        subst this
        exact q
    rcases hc2 with ⟨es, rs, hE, y, hQ, hX⟩ | h
    rotate_left
    · exact .inr h
    refine .inl ⟨es, rs, hE, y, fun H1 S1 => ?_⟩
    have I := hE.img
    have e12 := I.2.1
    obtain ⟨l, as, rfl, hl, tl, l60, ok⟩ := y.same S1
    have la := tl.1
    rw [rows_len] at la
    walk_at "rx"
    refine fr_it (walk_enum (xs := as.map V.ref)) (fun i σ H' => ∃ y2 y3, σ = [some (.ref l), some u, y2, y3] ∧ Same H1 H' ∧ ∀ (j : Nat) r, j < i → rs[j]? = some r → Care r) ⟨none, none, rfl, Same.refl _, fun j it z => absurd z (Nat.not_lt_zero j)⟩ (fun i σ H' _ p => ?_) ?_ ?_
    · obtain ⟨_, _, _, S, _⟩ := p
      exact SqL.of (S _ _ hl)
    · rintro i x σ H2 H3 hil ⟨y2, y3, rfl, S, g⟩ ⟨t, u1, w, rfl, nT, rfl, e1, e2⟩
      cases e1
      rw [List.length_map] at hil
      have hi2 : i < rs.length := by omega
      have S3 := same_new (o := .tup [.int (i : Nat), w]) S nT
      obtain ⟨p, ep, hp⟩ := (tl.same S3).get (i := i) (by rw [rows_len]; exact hi2)
      have e3 : (as.map V.ref)[i]? = some w := e2
      rw [List.getElem?_map, ep] at e3
      cases e3
      have er : (rows rs)[i]'(by rw [rows_len]; exact hi2) = rs[i].vals := by simp [rows]
      rw [er] at hp
      have ei : rs[i]? = some rs[i] := List.getElem?_eq_getElem hi2
      walk_at "rx"
      refine ⟨p, rs[i], es.length, rfl, hp, ok _ (List.getElem_mem hi2), e12, fun b hb => ?_⟩
      cases b with
      | true =>
        walk_at "rx"
        refine ⟨_, _, rfl, S3, fun j r hj e4 => ?_⟩
        rcases Nat.lt_or_ge j i with z | z
        · exact g j r z e4
        · have : j = i := by omega
          subst this
          rw [ei] at e4
          cases e4
          exact hb.mp rfl
      | false =>
        walk_at "rx"
        refine mkErr fun H8 d S8 hd => ?_
        exact hX i _ ei (fun z => absurd (hb.mpr z) Bool.false_ne_true) g H8 d ((S1.trans S3).trans S8) hd
    · rintro σ H2 ⟨y2, y3, rfl, S, g⟩
      refine hQ (fun i r e => g i r ?_ e) _ (S1.trans S)
      rw [List.length_map, la]
      exact (List.getElem?_eq_some_iff.mp e).1
def sp_law_careful_asked (_K : PySem.W.Frag) : Sp := fun vs H Q _ => ∃ (v u : V) (s : Str) (k : Int), vs = [v, u] ∧ CA H v u s k ∧ ∀ H' D, Same H H' → H' D = some (.lst [.str s, .int k]) → Q (.ref D) H'
set_option maxHeartbeats 4000000 in
theorem ok_law_careful_asked (T : Top K mg) {f : Addr} {fd : FuncData} (D : Def K mg "_law_careful_asked" s_law_careful_asked ["handed", "image"] f fd) : FnOk P w K mg base CX0 6 f fd ["handed", "image"] (sp_law_careful_asked K) := by
  obtain ⟨fE_InvalidImage, fdE_InvalidImage, ET_InvalidImage, FE_InvalidImage, bE_InvalidImage⟩ := T.e_InvalidImage
  have GI_InvalidImage := okInit_InvalidImage (P := P) (w := w) (base := base) ET_InvalidImage FE_InvalidImage
  obtain ⟨fE_InvalidLine, fdE_InvalidLine, ET_InvalidLine, FE_InvalidLine, bE_InvalidLine⟩ := T.e_InvalidLine
  have GI_InvalidLine := okInit_InvalidLine (P := P) (w := w) (base := base) ET_InvalidLine FE_InvalidLine
  obtain ⟨fE_NotCareful, fdE_NotCareful, ET_NotCareful, FE_NotCareful, bE_NotCareful⟩ := T.e_NotCareful
  have GI_NotCareful := okInit_NotCareful (P := P) (w := w) (base := base) ET_NotCareful FE_NotCareful
  obtain ⟨fcheck_careful, fdcheck_careful, Dcheck_careful⟩ := T.d_check_careful
  have Gcheck_careful : FnOk P w K mg base (L2.CX P w) 5 fcheck_careful fdcheck_careful ["script", "image"] (spcheck_careful K) := okcheck_careful T Dcheck_careful
  refine D.F.ok sc_law_careful_asked (fun vs H Q E h => ?_) (fun cdv A outer s H vs Q E hr h => ?_)
  · obtain ⟨v, u, s, k, rfl, _⟩ := h
    rfl
  · obtain ⟨v, u, s, k, rfl, hc, q⟩ := h
    refine ⟨_, (pss_cons (ps_tryM [(.ref (atTop K "InvalidImage"), 3, _), (.ref (atTop K "InvalidLine"), 3, _), (.ref (atTop K "NotCareful"), 3, _)] (_) rfl rfl sc_law_careful_asked.nd (fun W pn xe tk => (pss_one (ps_set (i := 2) sc_law_careful_asked.nd rfl (.inl rfl) (pe_callS Gcheck_careful hr (by rfl) Dcheck_careful.g Dcheck_careful.F.kp Dcheck_careful.b (fun σ => passAt tk σ) (pa_cons (pv 0) (pa_cons (pv 1) pa_nil)))))) (.cons ⟨rfl, by decide, .inl ET_InvalidImage.gC⟩ rfl rfl (fun a oe cls d pn hz hf => (pss_one (ps_ret (pe_lst (pa_cons pe_str (pa_cons (pe_xf ET_InvalidImage.xf ET_InvalidImage.noN hz hf (pv 3)) pa_nil)))))) (.cons ⟨rfl, by decide, .inl ET_InvalidLine.gC⟩ rfl rfl (fun a oe cls d pn hz hf => (pss_one (ps_ret (pe_lst (pa_cons pe_str (pa_cons (pe_xf ET_InvalidLine.xf ET_InvalidLine.noN hz hf (pv 3)) pa_nil)))))) (.cons ⟨rfl, by decide, .inl ET_NotCareful.gC⟩ rfl rfl (fun a oe cls d pn hz hf => (pss_cons (ps_if (PW.pt (pw_or (pt_not (pt_val (pe_callB (call_isX ET_NotCareful.ec ET_NotCareful.icl hz hf) (by rfl) T.b_isinstance (by decide +kernel) (pa_cons (pv 3) (pa_cons (Rv.pe_k (by rfl) T.c_RedoError) pa_nil))))) (pw_or1 (pt_val (pe_callB (call_isX ET_NotCareful.ec ET_NotCareful.icl hz hf) (by rfl) T.b_isinstance (by decide +kernel) (pa_cons (pv 3) (pa_cons (Rv.pe_k (by rfl) T.c_InvalidLine) pa_nil))))))) (pss_one (ps_ret (pe_lst (pa_cons pe_str (pa_cons pe_int pa_nil))))) pss_nil)
    (pss_one (ps_ret (pe_lst (pa_cons pe_str (pa_cons (pe_xf ET_NotCareful.xf ET_NotCareful.noN hz hf (pv 3)) pa_nil))))))) .nil))))
    (pss_one (ps_ret (pe_lst (pa_cons pe_str (pa_cons (pe_callTy (r := rIntO) call_intO (by rfl) T.b_int (by decide +kernel) (pa_cons (pe_cmpR op_isNQ (pv 2) pe_non (nomark _)) pa_nil)) pa_nil)))))), ?_⟩
    walk_at "rx"
    refine ⟨v, u, rfl, ?_⟩
    rcases hc with ⟨es, ek, fs, rs, i, y, c⟩ | ⟨es, M, b⟩ | ⟨es, fs, i, n⟩ | ⟨es, fs, rs, j, i, y, ek, nc, bf⟩
    · refine .inl ⟨fs, rs, i, y, c, fun H1 S1 => ?_⟩
      walk_at "rx"
      rw [decide_eq_true (show V.non = V.non from rfl)]
      refine rd_intOB ?_
      walk_at "rx"
      refine rd_newQ (by simp) fun H2 p S2 np hp => ?_
      exact q H2 p (S1.trans S2) (by rw [hp, es, ek]; rfl)
    · refine .inr (.inl ⟨M, k, b, fun H1 dd S1 hd => ?_⟩)
      refine ⟨true, T.x_InvalidImage_InvalidImage, iteT fun a na => ?_⟩
      walk_at "rx"
      refine ⟨rfl, rfl, dd, _, .int k, rfl, hd, by simp [List.lookup], ?_⟩
      walk_at "rx"
      refine rd_newQ (by simp) fun H2 p S2 np hp => ?_
      exact q H2 p (S1.trans S2) (by rw [hp, es]; rfl)
    · refine .inr (.inr (.inl ⟨fs, k, i, n, fun H1 dd S1 hd => ?_⟩))
      refine ⟨false, T.x_InvalidLine_InvalidImage, iteF ⟨true, T.x_InvalidLine_InvalidLine, iteT fun a na => ?_⟩⟩
      walk_at "rx"
      refine ⟨rfl, rfl, dd, _, .int k, rfl, hd, by simp [List.lookup], ?_⟩
      walk_at "rx"
      refine rd_newQ (by simp) fun H2 p S2 np hp => ?_
      exact q H2 p (S1.trans S2) (by rw [hp, es]; rfl)
    · refine .inr (.inr (.inr ⟨fs, rs, j, i, y, nc, bf, fun H1 dd S1 hd => ?_⟩))
      refine ⟨false, T.x_NotCareful_InvalidImage, iteF ⟨false, T.x_NotCareful_InvalidLine, iteF ⟨true, T.x_NotCareful_NotCareful, iteT fun a na => ?_⟩⟩⟩
      walk_at "rx"
      refine ⟨.ref (atTop K "RedoError"), .ref (atTop K "RedoError"), true, dd, _, rfl, fun u h => h, T.k_NotCareful_RedoError, rfl, rfl, hd, ?_⟩
      walk_at "rx"
      refine ⟨.ref (atTop K "InvalidLine"), .ref (atTop K "InvalidLine"), false, dd, _, rfl, fun u h => h, T.k_NotCareful_InvalidLine, rfl, rfl, hd, ?_⟩
      walk_at "rx"
      refine ⟨rfl, rfl, dd, _, .int (j : Int), rfl, hd, by simp [List.lookup], ?_⟩
      walk_at "rx"
      refine rd_newQ (by simp) fun H2 p S2 np hp => ?_
      exact q H2 p (S1.trans S2) (by rw [hp, es, ek]; rfl)
def sp_law_mark (_K : PySem.W.Frag) : Sp := fun vs H Q _ => ∃ (B : Box) (t : Bool), vs = [.ref B.b, .bl t] ∧ IsBk B ∧ B.I H ∧ ∀ H' c, Wg B H H' → Sign c → (t = true → c = 46) → Q (.str (one c)) H'
set_option maxHeartbeats 4000000 in
theorem ok_law_mark (T : Top K mg) {f : Addr} {fd : FuncData} (D : Def K mg "_law_mark" s_law_mark ["box", "is_target"] f fd) : FnOk P w K mg base CX0 2 f fd ["box", "is_target"] (sp_law_mark K) := by
  obtain ⟨f_law_take, fd_law_take, D_law_take⟩ := T.d__law_take
  have G_law_take : FnOk P w K mg base CX0 1 f_law_take fd_law_take ["box", "limit"] (sp_law_take K) := ok_law_take T D_law_take
  refine D.F.ok sc_law_mark (fun vs H Q E h => ?_) (fun cdv A outer s H vs Q E hr h => ?_)
  · obtain ⟨B, t, rfl, _⟩ := h
    rfl
  · obtain ⟨B, t, rfl, hB, i0, q⟩ := h
    refine ⟨_, (pss_cons (ps_if (pt_val (pv 1)) (pss_one (ps_ret pe_str)) pss_nil)
    (pss_one (ps_ret (pe_ix ix_str pe_str (pe_call G_law_take hr (by rfl) D_law_take.g D_law_take.F.kp D_law_take.b .nil pass0 (pa_cons (pv 0) (pa_cons pe_int pa_nil))) (fun _ _ => rfl))))), ?_⟩
    cases t with
    | true =>
      walk_at "rx"
      exact q _ 46 (Wg.refl i0) (.inl rfl) fun _ => rfl
    | false =>
      walk_at "rx"
      refine ⟨B, 13, rfl, hB, i0, by decide, by decide, fun H1 s w1 hs => ?_⟩
      obtain ⟨c, ec, cs⟩ : ∃ c, atI (Str.ofString "-.*0123456789").cps.toList (s : Int) = some c ∧ Sign c := by
        have hs2 : s < [45, 46, 42, 48, 49, 50, 51, 52, 53, 54, 55, 56, 57].length := by show s < 13; omega
        refine ⟨[45, 46, 42, 48, 49, 50, 51, 52, 53, 54, 55, 56, 57][s], atI_get (xs := [45, 46, 42, 48, 49, 50, 51, 52, 53, 54, 55, 56, 57]) hs2, ?_⟩
        have m := List.getElem_mem hs2
        generalize [45, 46, 42, 48, 49, 50, 51, 52, 53, 54, 55, 56, 57][s] = c at *
        unfold Sign
        simp at m
        omega
      have hz : (Str.ofString "-.*0123456789").length ≤ sizeLine := by decide +kernel
      walk_at "rx"
      exact q _ c w1 cs fun z => absurd z Bool.false_ne_true
def sp_law_careful_line (_K : PySem.W.Frag) : Sp := fun vs H Q _ => ∃ (B : Box) (n : Nat), vs = [.ref B.b, .int (n : Int)] ∧ IsBk B ∧ B.I H ∧ 2 ≤ n ∧ n ≤ 12 ∧ ∀ H' D r, Wg B H H' → H' D = some (.tup r.vals) → LnOk n r → Care r → r.g.length = n → Q (.ref D) H'
set_option maxHeartbeats 4000000 in
theorem ok_law_careful_line (T : Top K mg) {f : Addr} {fd : FuncData} (D : Def K mg "_law_careful_line" s_law_careful_line ["box", "blocks"] f fd) : FnOk P w K mg base CX0 3 f fd ["box", "blocks"] (sp_law_careful_line K) := by
  obtain ⟨f_law_take, fd_law_take, D_law_take⟩ := T.d__law_take
  have G_law_take : FnOk P w K mg base CX0 1 f_law_take fd_law_take ["box", "limit"] (sp_law_take K) := ok_law_take T D_law_take
  obtain ⟨f_law_mark, fd_law_mark, D_law_mark⟩ := T.d__law_mark
  have G_law_mark : FnOk P w K mg base CX0 2 f_law_mark fd_law_mark ["box", "is_target"] (sp_law_mark K) := ok_law_mark T D_law_mark
  refine D.F.ok sc_law_careful_line (fun vs H Q E h => ?_) (fun cdv A outer s H vs Q E hr h => ?_)
  · obtain ⟨B, n, rfl, _⟩ := h
    rfl
  · obtain ⟨B, n, rfl, hB, i0, n2, n12, q⟩ := h
    have hr1 : -100000 ≤ (n : Int) ∧ (n : Int) ≤ 100000 := by omega
    have n9 : (n : Int) ≠ 0 := by omega
    refine ⟨_, (pss_cons (ps_set (i := 2) sc_law_careful_line.nd rfl (.inr rfl) (pe_call G_law_take (hr.mono (by decide)) (by rfl) D_law_take.g D_law_take.F.kp D_law_take.b .nil pass0 (pa_cons (pv 0) (pa_cons (pv 1) pa_nil))))
    (pss_cons (ps_set (i := 3) sc_law_careful_line.nd rfl (.inl rfl) (pe_op op_modN (pe_callTy call_intQ (by rfl) T.b_int (by decide +kernel) (pa_cons (pe_op op_add (pe_op op_add (pv 2) pe_int) (pe_call G_law_take (hr.mono (by decide)) (by rfl) D_law_take.g D_law_take.F.kp D_law_take.b .nil pass0 (pa_cons (pv 0) (pa_cons (pe_op op_sub (pv 1) pe_int) pa_nil)))) pa_nil)) (pv 1)))
    (pss_one (ps_ret (pe_tup (pa_cons pe_str (pa_cons (pv 2) (pa_cons (pv 3) (pa_cons (pe_join pe_str (pe_lc (own := [("k", 4)]) (g := gName 4) (tt := tYes) rfl sc_law_careful_line.nd (pi_range1 (by rfl) T.b_range (pa_cons (pv 1) pa_nil))
      (blkOk_by (own := [("k", 4)]) (N := ["box", "blocks", "target", "source", "k"]) (sc := defScope s_law_careful_line) (by decide +kernel)) (fun _ _ _ _ _ => (pg_name (i := 4) sc_law_careful_line.nd rfl (.inl rfl))) (fun _ _ _ _ _ => pts_nil)
      (fun _ _ _ _ _ => (pe_call G_law_mark hr (by rfl) D_law_mark.g D_law_mark.F.kp D_law_mark.b .nil pass0 (pa_cons (pv 0) (pa_cons (pe_cmpR op_eq (pv 4) (pv 2) (nomark _)) pa_nil)))))) pa_nil))))))))), ?_⟩
    walk_at "rx"
    refine ⟨B, n, rfl, hB, i0, by omega, by omega, fun H1 t w1 ht => ?_⟩
    walk_at "rx"
    refine ⟨B, _, rfl, hB, w1.i1, by omega, by omega, fun H2 d w2 hd => ?_⟩
    have mp := mod_pair (t := (t : Int)) (d := (d : Int)) (n := (n : Int)) (by omega) ht (by omega) hd
    generalize eo : ((t : Int) + 1 + (d : Int)).fmod (n : Int) = o at *
    walk_at "rx"
    rw [show ((n : Int)).toNat = n by omega]
    refine lc_wg walk_rng w2.i1 (fun i acc _ => i ≤ n ∧ ∃ gs : List Nat, acc = (gs.map one).map V.str ∧ gs.length = i ∧ (∀ c ∈ gs, Sign c) ∧ (t < i → gs[t]? = some 46)) (fun _ _ => ⟨Nat.zero_le _, [], rfl, rfl, fun c hc => absurd hc List.not_mem_nil, fun z => absurd z (Nat.not_lt_zero t)⟩) (fun i acc Ha Hb _ p => p) ?_ (fun _ _ => trivial) ?_ ?_
    · rintro i acc Ha ⟨il, gs, rfl, lg, _⟩
      rw [List.length_map, List.length_map]
      omega
    · rintro i x Ha Hb acc Qc R hi wa ⟨il, gs, rfl, lg, sg, st⟩ ⟨rfl, rfl⟩ qc rc
      walk_at "rx"
      refine ⟨rfl, ?_⟩
      walk_at "rx"
      refine ⟨B, _, rfl, hB, wa.i1, fun Hc c wc cs ct => ?_⟩
      refine qc _ _ wc ⟨hi, gs ++ [c], by rw [List.map_append, List.map_append]; rfl, by rw [List.length_append, lg]; rfl, fun x hx => ?_, fun z => ?_⟩
      · rcases List.mem_append.mp hx with y | y
        · exact sg x y
        · rw [List.mem_singleton.mp y]; exact cs
      · by_cases y : i = t
        · rw [List.getElem?_append_right (by omega), show t - gs.length = 0 by omega, ct (by rw [y]; exact decide_eq_true rfl)]
          rfl
        · rw [List.getElem?_append_left (by omega)]
          exact st (by omega)
    · rintro H3 D acc w3 nD hD ⟨il, gs, rfl, lg, sg, st⟩
      refine ⟨_, D, gs.map one, rfl, rfl, .inl (SqL.of hD), ?_, ?_⟩
      · rw [ones_sum, List.length_map]
        show gs.length + gs.length * 0 ≤ _
        omega
      · rw [join_sg]
        walk_at "rx"
        refine rd_newQ (by simp) fun H4 P S4 nP hP => ?_
        refine q H4 P ⟨sMove, t, o, gs⟩ (((w1.trans w2).trans w3).same S4) (by rw [hP, eo]; rfl) ⟨by show (0 : Int) ≤ t; omega, ht, .inr ⟨.inr rfl, mp.1, mp.2.1, fun e => mp.2.2 e.symm⟩, .inr lg, sg⟩ ⟨rfl, fun e => ?_, ?_⟩ lg
        · have e2 : gs = [] := e
          rw [e2] at lg
          simp at lg
          omega
        · show gs.getD ((t : Int)).toNat 0 = 46
          rw [Int.toNat_natCast, List.getD_eq_getElem?_getD, st (by omega)]
          rfl
def sp_law_wrong_line (_K : PySem.W.Frag) : Sp := fun vs H Q _ => ∃ (B : Box) (n : Nat), vs = [.ref B.b, .int (n : Int)] ∧ IsBk B ∧ B.I H ∧ 1 ≤ n ∧ n ≤ 12 ∧ ∀ H' v it, Wg B H H' → ImNew H H' v it → Wf it → ImD it → ¬ Good n it → Q v H'
set_option maxHeartbeats 4000000 in
theorem ok_law_wrong_line (T : Top K mg) {f : Addr} {fd : FuncData} (D : Def K mg "_law_wrong_line" s_law_wrong_line ["box", "blocks"] f fd) : FnOk P w K mg base CX0 2 f fd ["box", "blocks"] (sp_law_wrong_line K) := by
  obtain ⟨f_law_take, fd_law_take, D_law_take⟩ := T.d__law_take
  have G_law_take : FnOk P w K mg base CX0 1 f_law_take fd_law_take ["box", "limit"] (sp_law_take K) := ok_law_take T D_law_take
  refine D.F.ok sc_law_wrong_line (fun vs H Q E h => ?_) (fun cdv A outer s H vs Q E hr h => ?_)
  · obtain ⟨B, n, rfl, _⟩ := h
    rfl
  · obtain ⟨B, n, rfl, hB, i0, n1, n12, q⟩ := h
    have n9 : (n : Int) ≠ 0 := by omega
    refine ⟨_, (pss_cons (ps_set (i := 2) sc_law_wrong_line.nd rfl (.inl rfl) (pe_call G_law_take hr (by rfl) D_law_take.g D_law_take.F.kp D_law_take.b .nil pass0 (pa_cons (pv 0) (pa_cons pe_int pa_nil))))
    (pss_cons (ps_set (i := 3) sc_law_wrong_line.nd rfl (.inl rfl) (pe_call G_law_take hr (by rfl) D_law_take.g D_law_take.F.kp D_law_take.b .nil pass0 (pa_cons (pv 0) (pa_cons (pv 1) pa_nil))))
    (pss_cons (ps_set (i := 4) sc_law_wrong_line.nd rfl (.inl rfl) (pe_op op_modN (pe_callTy call_intQ (by rfl) T.b_int (by decide +kernel) (pa_cons (pe_op op_add (pv 3) pe_int) pa_nil)) (pv 1)))
    (pss_cons (ps_set (i := 5) sc_law_wrong_line.nd rfl (.inl rfl) (pe_op op_mulY pe_str (pv 1)))
    (pss_cons (ps_if (pt_cmpR op_eq (pv 2) pe_int (nomark _)) (pss_one (ps_ret (pe_tup (pa_cons pe_str (pa_cons (pe_op op_add (pv 1) (pe_op op_mul (pe_call G_law_take hr (by rfl) D_law_take.g D_law_take.F.kp D_law_take.b .nil pass0 (pa_cons (pv 0) (pa_cons pe_int pa_nil))) (pe_call G_law_take hr (by rfl) D_law_take.g D_law_take.F.kp D_law_take.b .nil pass0 (pa_cons (pv 0) (pa_cons pe_int pa_nil))))) (pa_cons (pv 4) (pa_cons (pv 5) pa_nil))))))) pss_nil)
    (pss_cons (ps_if (pt_cmpR op_eq (pv 2) pe_int (nomark _)) (pss_one (ps_ret (pe_tup (pa_cons pe_str (pa_cons (pv 3) (pa_cons (pe_op op_sub (pe_un un_neg pe_int) (pe_op op_mul (pe_call G_law_take hr (by rfl) D_law_take.g D_law_take.F.kp D_law_take.b .nil pass0 (pa_cons (pv 0) (pa_cons pe_int pa_nil))) (pe_call G_law_take hr (by rfl) D_law_take.g D_law_take.F.kp D_law_take.b .nil pass0 (pa_cons (pv 0) (pa_cons pe_int pa_nil))))) (pa_cons (pv 5) pa_nil))))))) pss_nil)
    (pss_cons (ps_if (pt_cmpR op_eq (pv 2) pe_int (nomark _)) (pss_one (ps_ret (pe_tup (pa_cons pe_str (pa_cons (pv 3) (pa_cons (pv 3) (pa_cons (pv 5) pa_nil))))))) pss_nil)
    (pss_cons (ps_if (pt_cmpR op_eq (pv 2) pe_int (nomark _)) (pss_one (ps_ret (pe_tup (pa_cons pe_str (pa_cons (pv 3) (pa_cons (pv 4) (pa_cons (pe_op op_addZ (pv 5) pe_str) pa_nil))))))) pss_nil)
    (pss_cons (ps_if (pt_cmpR op_eq (pv 2) pe_int (nomark _)) (pss_one (ps_ret (pe_tup (pa_cons pe_str (pa_cons (pv 3) (pa_cons (pe_un un_neg pe_int) (pa_cons (pe_op op_addZ (pe_op op_addZ (pe_slice sl_str (pv 5) po_none (po_some (pv 3))) pe_str) (pe_slice sl_str (pv 5) (po_some (pe_op op_add (pv 3) pe_int)) po_none)) pa_nil))))))) pss_nil)
    (pss_cons (ps_if (pt_cmpR op_eq (pv 2) pe_int (nomark _)) (pss_one (ps_ret (pe_tup (pa_cons pe_str (pa_cons (pv 3) (pa_cons (pv 4) (pa_cons (pv 5) pa_nil))))))) pss_nil)
    (pss_cons (ps_if (pt_cmpR op_eq (pv 2) pe_int (nomark _)) (pss_one (ps_ret (pe_lst (pa_cons pe_str (pa_cons (pv 3) (pa_cons (pe_un un_neg pe_int) (pa_cons (pv 5) pa_nil))))))) pss_nil)
    (pss_cons (ps_if (pt_cmpR op_eq (pv 2) pe_int (nomark _)) (pss_one (ps_ret (pe_tup (pa_cons pe_str (pa_cons (pv 3) (pa_cons pe_int (pa_cons (pv 5) pa_nil))))))) pss_nil)
    (pss_one (ps_ret (pe_tup (pa_cons pe_str (pa_cons (pv 3) (pa_cons (pe_un un_neg pe_int) pa_nil)))))))))))))))))), ?_⟩
    walk_at "rx"
    refine ⟨B, 9, rfl, hB, i0, by decide, by decide, fun H1 way w1 hw => ?_⟩
    walk_at "rx"
    refine ⟨B, n, rfl, hB, w1.i1, by omega, by omega, fun H2 t w2 ht => ?_⟩
    have w12 := w1.trans w2
    have so : 0 ≤ ((t : Int) + 1).fmod (n : Int) ∧ ((t : Int) + 1).fmod (n : Int) < n := fmod_in (by omega)
    have g46 : ∀ c ∈ List.replicate n 46, c < 128 := fun c hc => by rw [List.eq_of_mem_replicate hc]; decide
    have okM : PyData.strOk sMove = true := by decide +kernel
    have okC : PyData.strOk sClear = true := by decide +kernel
    have ln : ∀ H' D (r : Ln), Wg B H H' → H' D = some (.tup r.vals) → PyData.strOk r.w = true → (∀ c ∈ r.g, c < 128) → r.g.length ≤ 20 → ¬ LnOk n r → Q (.ref D) H' := fun H' D r w hD hw hg hl no => q H' _ (.tup r.vals) w ⟨D, rfl, hD⟩ (fun _ => ⟨r, rfl, by omega⟩) (imD_ln hw hg) fun g => no (good_vals.mp g)
    walk_at "rx"
    refine rd_mulY (c := 46) (n := n) rfl (by omega) ?_
    have rl : (List.replicate n 46).length = n := List.length_replicate
    walk_at "rx"
    refine ite2 (fun z => ?_) (fun z => ?_)
    · walk_at "rx"
      refine ⟨B, 2, rfl, hB, w2.i1, by decide, by decide, fun H3 a w3 ha => ?_⟩
      walk_at "rx"
      refine ⟨B, 100, rfl, hB, w3.i1, by decide, by decide, fun H4 b w4 hb => ?_⟩
      refine rd_I (.inl ⟨by omega, by omega⟩) ?_
      walk_at "rx"
      refine rd_newQ (by simp) fun H5 D S5 nD hD => ?_
      have ab : 0 ≤ (a : Int) * (b : Int) := Int.mul_nonneg (by omega) (by omega)
      exact ln H5 D ⟨sMove, (n : Int) + (a : Int) * (b : Int), _, List.replicate n 46⟩ (((w12.trans w3).trans w4).same S5) hD okM g46 (by show (List.replicate n 46).length ≤ 20; omega) fun k => by have := k.t1; have h : (n : Int) + (a : Int) * (b : Int) < n := this; omega
    walk_at "rx"
    refine ite2 (fun z => ?_) (fun z => ?_)
    · walk_at "rx"
      refine ⟨B, 2, rfl, hB, w2.i1, by decide, by decide, fun H3 a w3 ha => ?_⟩
      walk_at "rx"
      refine ⟨B, 100, rfl, hB, w3.i1, by decide, by decide, fun H4 b w4 hb => ?_⟩
      refine rd_I (.inl ⟨by omega, by omega⟩) ?_
      walk_at "rx"
      refine rd_newQ (by simp) fun H5 D S5 nD hD => ?_
      have ab : 0 ≤ (a : Int) * (b : Int) := Int.mul_nonneg (by omega) (by omega)
      exact ln H5 D ⟨sMove, t, -1 - (a : Int) * (b : Int), List.replicate n 46⟩ (((w12.trans w3).trans w4).same S5) hD okM g46 (by show (List.replicate n 46).length ≤ 20; omega) fun k => by
        rcases k.word with ⟨e, _⟩ | ⟨_, h, _⟩
        · exact absurd (show sMove = sClear from e) (by decide)
        · have h : 0 ≤ -1 - (a : Int) * (b : Int) := h
          omega
    walk_at "rx"
    refine ite2 (fun z => ?_) (fun z => ?_)
    · walk_at "rx"
      refine rd_newQ (by simp) fun H5 D S5 nD hD => ?_
      exact ln H5 D ⟨sMove, t, t, List.replicate n 46⟩ (w12.same S5) hD okM g46 (by show (List.replicate n 46).length ≤ 20; omega) fun k => by
        rcases k.word with ⟨e, _⟩ | ⟨_, _, _, h⟩
        · exact absurd (show sMove = sClear from e) (by decide)
        · exact h rfl
    walk_at "rx"
    refine ite2 (fun z => ?_) (fun z => ?_)
    · walk_at "rx"
      refine rd_addZ (a := List.replicate n 46) (b := [45]) (by rw [rl]; simp; omega) ?_
      walk_at "rx"
      refine rd_newQ (by simp) fun H5 D S5 nD hD => ?_
      refine ln H5 D ⟨sMove, t, _, List.replicate n 46 ++ [45]⟩ (w12.same S5) hD okM (fun c hc => ?_) (by show (List.replicate n 46 ++ [45]).length ≤ 20; rw [List.length_append, rl]; simp; omega) fun k => ?_
      · rcases List.mem_append.mp hc with y | y
        · exact g46 c y
        · rw [List.mem_singleton.mp y]; decide
      · rcases k.gl with e | e
        · have e2 : List.replicate n 46 ++ [45] = [] := e
          simp at e2
        · have e2 : (List.replicate n 46 ++ [45]).length = n := e
          rw [List.length_append, rl] at e2
          simp at e2
    walk_at "rx"
    refine ite2 (fun z => ?_) (fun z => ?_)
    · walk_at "rx"
      refine rd_slS (by rw [rl]; omega) ?_
      rw [cutS_to]
      walk_at "rx"
      have tl : t < (List.replicate n 46).length := by rw [rl]; omega
      refine rd_addZ (a := (List.replicate n 46).take t) (b := [43]) (by rw [List.length_take]; simp; omega) ?_
      walk_at "rx"
      rw [show (t : Int) + 1 = ((t + 1 : Nat) : Int) by omega]
      refine rd_slS (by rw [rl]; omega) ?_
      rw [cutS_from]
      refine rd_addZ (a := (List.replicate n 46).take t ++ [43]) (b := (List.replicate n 46).drop (t + 1)) (by rw [List.length_append, List.length_take, List.length_drop]; simp; omega) ?_
      rw [sign_set tl]
      walk_at "rx"
      refine rd_newQ (by simp) fun H5 D S5 nD hD => ?_
      refine ln H5 D ⟨sClear, t, -1, (List.replicate n 46).set t 43⟩ (w12.same S5) hD okC (fun c hc => ?_) (by show ((List.replicate n 46).set t 43).length ≤ 20; rw [List.length_set]; omega) fun k => ?_
      · rcases List.mem_or_eq_of_mem_set hc with y | y
        · exact g46 c y
        · rw [y]; decide
      · have := k.gs 43 (List.mem_of_getElem? (List.getElem?_set_self tl))
        unfold Sign at this
        omega
    walk_at "rx"
    refine ite2 (fun z => ?_) (fun z => ?_)
    · walk_at "rx"
      refine rd_newQ (by simp) fun H5 D S5 nD hD => ?_
      exact ln H5 D ⟨Str.ofString "swap", t, _, List.replicate n 46⟩ (w12.same S5) hD (show PyData.strOk (Str.ofString "swap") = true by decide +kernel) g46 (by show (List.replicate n 46).length ≤ 20; omega) fun k => by
        rcases k.word with ⟨e, _⟩ | ⟨e | e, _⟩
        · exact absurd (show Str.ofString "swap" = sClear from e) (by decide)
        · exact absurd (show Str.ofString "swap" = sCopy from e) (by decide)
        · exact absurd (show Str.ofString "swap" = sMove from e) (by decide)
    walk_at "rx"
    refine ite2 (fun z => ?_) (fun z => ?_)
    · walk_at "rx"
      refine rd_newQ (by simp) fun H5 D S5 nD hD => ?_
      refine q H5 _ (.lst [.str sClear, .int (t : Int), .int (-1), .str (txt (List.replicate n 46))]) (w12.same S5) ⟨D, rfl, w12.free nD, hD⟩ True.intro (imD_lst (imD_four okC g46).1 (imD_four okC g46).2) fun ⟨r, e, _⟩ => nomatch e
    walk_at "rx"
    refine ite2 (fun z => ?_) (fun z => ?_)
    · walk_at "rx"
      refine rd_newQ (by simp) fun H5 D S5 nD hD => ?_
      exact ln H5 D ⟨sClear, t, 0, List.replicate n 46⟩ (w12.same S5) hD okC g46 (by show (List.replicate n 46).length ≤ 20; omega) fun k => by
        rcases k.word with ⟨_, e⟩ | ⟨e | e, _⟩
        · exact absurd (show (0 : Int) = -1 from e) (by decide)
        · exact absurd (show sClear = sCopy from e) (by decide)
        · exact absurd (show sClear = sMove from e) (by decide)
    · walk_at "rx"
      refine rd_newQ (by simp) fun H5 D S5 nD hD => ?_
      refine q H5 _ (.tup [.str sClear, .int (t : Int), .int (-1)]) (w12.same S5) ⟨D, rfl, hD⟩ (fun e => by simp at e) (imD_tup (ds := [PyData.str sClear, .int (t : Int), .int (-1)]) (fun K H => .cons (.str _) (.cons (.int _) (.cons (.int _) .nil))) fun d hd => ?_) fun ⟨r, e, _⟩ => ?_
      · simp only [List.mem_cons, List.not_mem_nil, or_false] at hd
        rcases hd with rfl | rfl | rfl
        · exact Sh.str okC
        · exact Sh.int _
        · exact Sh.int _
      · have := congrArg List.length (Im.tup.inj e)
        simp [Ln.vals] at this
def sp_law_other_line (_K : PySem.W.Frag) : Sp := fun vs H Q _ => ∃ (B : Box) (n : Nat), vs = [.ref B.b, .int (n : Int)] ∧ IsBk B ∧ B.I H ∧ 1 ≤ n ∧ n ≤ 12 ∧ ∀ H' D r, Wg B H H' → H' D = some (.tup r.vals) → LnOk n r → ¬ Care r → Q (.ref D) H'
set_option maxHeartbeats 4000000 in
theorem ok_law_other_line (T : Top K mg) {f : Addr} {fd : FuncData} (D : Def K mg "_law_other_line" s_law_other_line ["box", "blocks"] f fd) : FnOk P w K mg base CX0 4 f fd ["box", "blocks"] (sp_law_other_line K) := by
  obtain ⟨f_law_take, fd_law_take, D_law_take⟩ := T.d__law_take
  have G_law_take : FnOk P w K mg base CX0 1 f_law_take fd_law_take ["box", "limit"] (sp_law_take K) := ok_law_take T D_law_take
  obtain ⟨f_law_careful_line, fd_law_careful_line, D_law_careful_line⟩ := T.d__law_careful_line
  have G_law_careful_line : FnOk P w K mg base CX0 3 f_law_careful_line fd_law_careful_line ["box", "blocks"] (sp_law_careful_line K) := ok_law_careful_line T D_law_careful_line
  refine D.F.ok sc_law_other_line (fun vs H Q E h => ?_) (fun cdv A outer s H vs Q E hr h => ?_)
  · obtain ⟨B, n, rfl, _⟩ := h
    rfl
  · obtain ⟨B, n, rfl, hB, i0, n1, n12, q⟩ := h
    refine ⟨_, (pss_cons (ps_set (i := 2) sc_law_other_line.nd rfl (.inl rfl) (pe_call G_law_take (hr.mono (by decide)) (by rfl) D_law_take.g D_law_take.F.kp D_law_take.b .nil pass0 (pa_cons (pv 0) (pa_cons pe_int pa_nil))))
    (pss_cons (ps_if (PW.pt (pw_or (pt_cmpR op_eq (pv 1) pe_int (nomark _)) (pw_or1 (pt_cmpR op_eq (pv 2) pe_int (nomark _))))) (pss_one (ps_ret (pe_tup (pa_cons pe_str (pa_cons (pe_call G_law_take (hr.mono (by decide)) (by rfl) D_law_take.g D_law_take.F.kp D_law_take.b .nil pass0 (pa_cons (pv 0) (pa_cons (pv 1) pa_nil))) (pa_cons (pe_un un_neg pe_int) (pa_cons (pe_ix (r := rIxL K) ix_list (pe_lst (pa_cons pe_str (pa_cons (pe_op op_mulY pe_str (pv 1)) pa_nil))) (pe_call G_law_take (hr.mono (by decide)) (by rfl) D_law_take.g D_law_take.F.kp D_law_take.b .nil pass0 (pa_cons (pv 0) (pa_cons pe_int pa_nil))) (fun _ _ => rfl)) pa_nil))))))) pss_nil)
    (pss_cons (ps_set (i := 3) sc_law_other_line.nd rfl (.inl rfl) (pe_call G_law_careful_line hr (by rfl) D_law_careful_line.g D_law_careful_line.F.kp D_law_careful_line.b .nil pass0 (pa_cons (pv 0) (pa_cons (pv 1) pa_nil))))
    (pss_cons (ps_if (pt_cmpR op_eq (pv 2) pe_int (nomark _)) (pss_one (ps_ret (pe_tup (pa_cons pe_str (pa_cons (pe_ix (r := rIxT K) ix_tup (pv 3) pe_int (fun _ _ => rfl)) (pa_cons (pe_ix (r := rIxT K) ix_tup (pv 3) pe_int (fun _ _ => rfl)) (pa_cons (pe_ix (r := rIxT K) ix_tup (pv 3) pe_int (fun _ _ => rfl)) pa_nil))))))) pss_nil)
    (pss_cons (ps_if (pt_cmpR op_eq (pv 2) pe_int (nomark _)) (pss_one (ps_ret (pe_tup (pa_cons pe_str (pa_cons (pe_ix (r := rIxT K) ix_tup (pv 3) pe_int (fun _ _ => rfl)) (pa_cons (pe_ix (r := rIxT K) ix_tup (pv 3) pe_int (fun _ _ => rfl)) (pa_cons pe_str pa_nil))))))) pss_nil)
    (pss_cons (ps_set (i := 4) sc_law_other_line.nd rfl (.inl rfl) (pe_ix ix_str pe_str (pe_call G_law_take (hr.mono (by decide)) (by rfl) D_law_take.g D_law_take.F.kp D_law_take.b .nil pass0 (pa_cons (pv 0) (pa_cons pe_int pa_nil))) (fun _ _ => rfl)))
    (pss_one (ps_ret (pe_tup (pa_cons pe_str (pa_cons (pe_ix (r := rIxT K) ix_tup (pv 3) pe_int (fun _ _ => rfl)) (pa_cons (pe_ix (r := rIxT K) ix_tup (pv 3) pe_int (fun _ _ => rfl)) (pa_cons (pe_op op_addZ (pe_op op_addZ (pe_slice sl_str (pe_ix (r := rIxT K) ix_tup (pv 3) pe_int (fun _ _ => rfl)) po_none (po_some (pe_ix (r := rIxT K) ix_tup (pv 3) pe_int (fun _ _ => rfl)))) (pv 4)) (pe_slice sl_str (pe_ix (r := rIxT K) ix_tup (pv 3) pe_int (fun _ _ => rfl)) (po_some (pe_op op_add (pe_ix (r := rIxT K) ix_tup (pv 3) pe_int (fun _ _ => rfl)) pe_int)) po_none)) pa_nil))))))))))))), ?_⟩
    walk_at "rx"
    refine ⟨B, 4, rfl, hB, i0, by decide, by decide, fun H1 way w1 hw => ?_⟩
    have clr : ∀ gz : List Nat, (gz = [] ∨ gz = List.replicate n 46) → ∀ t : Nat, (t : Int) < n → LnOk n ⟨sClear, t, -1, gz⟩ := fun gz hg t ht => ⟨by show (0 : Int) ≤ t; omega, ht, .inl ⟨rfl, rfl⟩, by
      rcases hg with e | e
      · exact .inl e
      · exact .inr (by show gz.length = n; rw [e, List.length_replicate]), fun c hc => by
      rcases hg with e | e
      · have hc2 : c ∈ gz := hc
        rw [e] at hc2
        cases hc2
      · have hc2 : c ∈ gz := hc
        rw [e] at hc2
        rw [List.eq_of_mem_replicate hc2]
        exact .inl rfl⟩
    have nc : ∀ t o g, ¬ Care ⟨sClear, t, o, g⟩ := fun t o g c => absurd (show sClear = sMove from c.1) (by decide)
    by_cases h1 : n = 1 ∨ way = 0
    · have main : ∀ {R : Prop}, True := fun {_} => trivial
      walk_at "rx"
      by_cases hn : n = 1
      · rw [decide_eq_true (show V.int (n : Int) = V.int 1 from by rw [hn]; rfl)]
        walk_at "rx"
        refine ⟨B, n, rfl, hB, w1.i1, by omega, by omega, fun H2 t w2 ht => ?_⟩
        walk_at "rx"
        refine rd_mulY (c := 46) (n := n) rfl (by omega) ?_
        walk_at "rx"
        refine rd_newQ (by simp) fun H3 l S3 nl hl => ?_
        have ml := B.nem (w1.trans w2).i1 nl
        walk_at "rx"
        refine ⟨B, 2, rfl, hB, ((w1.trans w2).same S3).i1, by decide, by decide, fun H4 d w4 hd => ?_⟩
        have hl4 := w4.lst ml hl
        obtain ⟨gz, ez, hg⟩ : ∃ gz : List Nat, atI [V.str (Str.ofString ""), .str (txt (List.replicate n 46))] (d : Int) = some (.str (txt gz)) ∧ (gz = [] ∨ gz = List.replicate n 46) := by
          have : d = 0 ∨ d = 1 := by omega
          rcases this with rfl | rfl
          · exact ⟨[], rfl, .inl rfl⟩
          · exact ⟨_, rfl, .inr rfl⟩
        refine rd_ixL (SqL.of hl4) ez ?_
        walk_at "rx"
        refine rd_newQ (by simp) fun H5 P S5 nP hP => ?_
        exact q H5 P ⟨sClear, t, -1, gz⟩ ((((w1.trans w2).same S3).trans w4).same S5) hP (clr gz hg t ht) (nc _ _ _)
      · rw [decide_eq_false (show ¬ V.int (n : Int) = V.int 1 from fun z => hn (by have := V.int.inj z; omega))]
        walk_at "rx"
        rw [decide_eq_true (show V.int (way : Int) = V.int 0 from by rw [h1.resolve_left hn]; rfl)]
        walk_at "rx"
        refine ⟨B, n, rfl, hB, w1.i1, by omega, by omega, fun H2 t w2 ht => ?_⟩
        walk_at "rx"
        refine rd_mulY (c := 46) (n := n) rfl (by omega) ?_
        walk_at "rx"
        refine rd_newQ (by simp) fun H3 l S3 nl hl => ?_
        have ml := B.nem (w1.trans w2).i1 nl
        walk_at "rx"
        refine ⟨B, 2, rfl, hB, ((w1.trans w2).same S3).i1, by decide, by decide, fun H4 d w4 hd => ?_⟩
        have hl4 := w4.lst ml hl
        obtain ⟨gz, ez, hg⟩ : ∃ gz : List Nat, atI [V.str (Str.ofString ""), .str (txt (List.replicate n 46))] (d : Int) = some (.str (txt gz)) ∧ (gz = [] ∨ gz = List.replicate n 46) := by
          have : d = 0 ∨ d = 1 := by omega
          rcases this with rfl | rfl
          · exact ⟨[], rfl, .inl rfl⟩
          · exact ⟨_, rfl, .inr rfl⟩
        refine rd_ixL (SqL.of hl4) ez ?_
        walk_at "rx"
        refine rd_newQ (by simp) fun H5 P S5 nP hP => ?_
        exact q H5 P ⟨sClear, t, -1, gz⟩ ((((w1.trans w2).same S3).trans w4).same S5) hP (clr gz hg t ht) (nc _ _ _)
    · walk_at "rx"
      rw [decide_eq_false (show ¬ V.int (n : Int) = V.int 1 from fun z => h1 (.inl (by have := V.int.inj z; omega)))]
      walk_at "rx"
      rw [decide_eq_false (show ¬ V.int (way : Int) = V.int 0 from fun z => h1 (.inr (by have := V.int.inj z; omega)))]
      walk_at "rx"
      refine ⟨B, n, rfl, hB, w1.i1, by omega, n12, fun H2 D r w2 hD ok ca gl => ?_⟩
      have hD2 : H2 D = some (.tup [.str r.w, .int r.t, .int r.o, .str (txt r.g)]) := hD
      have w12 := w1.trans w2
      have src : 0 ≤ r.o ∧ r.o < n ∧ r.o ≠ r.t := by
        rcases ok.word with ⟨e, _⟩ | ⟨_, h⟩
        · rw [ca.1] at e
          exact absurd e (by decide)
        · exact h
      walk_at "rx"
      by_cases z1 : way = 1
      · rw [decide_eq_true (show V.int (way : Int) = V.int 1 from by rw [z1]; rfl)]
        walk_at "rx"
        refine rd_newQ (by simp) fun H3 P S3 nP hP => ?_
        exact q H3 P ⟨sCopy, r.t, r.o, r.g⟩ (w12.same S3) hP ⟨ok.t0, ok.t1, .inr ⟨.inl rfl, src⟩, ok.gl, ok.gs⟩ fun c => absurd (show sCopy = sMove from c.1) (by decide)
      · rw [decide_eq_false (show ¬ V.int (way : Int) = V.int 1 from fun z => z1 (by have := V.int.inj z; omega))]
        walk_at "rx"
        by_cases z2 : way = 2
        · rw [decide_eq_true (show V.int (way : Int) = V.int 2 from by rw [z2]; rfl)]
          walk_at "rx"
          refine rd_newQ (by simp) fun H3 P S3 nP hP => ?_
          exact q H3 P ⟨sMove, r.t, r.o, []⟩ (w12.same S3) hP ⟨ok.t0, ok.t1, .inr ⟨.inr rfl, src⟩, .inl rfl, fun c hc => absurd hc List.not_mem_nil⟩ fun c => c.2.1 rfl
        · rw [decide_eq_false (show ¬ V.int (way : Int) = V.int 2 from fun z => z2 (by have := V.int.inj z; omega))]
          walk_at "rx"
          refine ⟨B, 12, rfl, hB, w2.i1, by decide, by decide, fun H3 s w3 hs => ?_⟩
          obtain ⟨c, ec, cs, cn⟩ : ∃ c, atI (Str.ofString "-*0123456789").cps.toList (s : Int) = some c ∧ Sign c ∧ c ≠ 46 := by
            have hs2 : s < [45, 42, 48, 49, 50, 51, 52, 53, 54, 55, 56, 57].length := by show s < 12; omega
            refine ⟨[45, 42, 48, 49, 50, 51, 52, 53, 54, 55, 56, 57][s], atI_get (xs := [45, 42, 48, 49, 50, 51, 52, 53, 54, 55, 56, 57]) hs2, ?_⟩
            have m := List.getElem_mem hs2
            generalize [45, 42, 48, 49, 50, 51, 52, 53, 54, 55, 56, 57][s] = c at *
            unfold Sign
            simp at m
            omega
          have hz : (Str.ofString "-*0123456789").length ≤ sizeLine := by decide +kernel
          have hD3 := w3.tup hD2
          obtain ⟨tn, et⟩ : ∃ tn : Nat, r.t = (tn : Int) := ⟨r.t.toNat, by have := ok.t0; omega⟩
          have tl : tn < r.g.length := by have := ok.t1; omega
          walk_at "rx"
          rw [et]
          refine rd_slS (by omega) ?_
          rw [cutS_to]
          walk_at "rx"
          refine rd_addZ (a := r.g.take tn) (b := [c]) (by rw [List.length_take]; simp; omega) ?_
          walk_at "rx"
          rw [show r.t + 1 = ((tn + 1 : Nat) : Int) by omega]
          refine rd_slS (by omega) ?_
          rw [cutS_from]
          refine rd_addZ (a := r.g.take tn ++ [c]) (b := r.g.drop (tn + 1)) (by rw [List.length_append, List.length_take, List.length_drop]; simp; omega) ?_
          rw [sign_set tl]
          walk_at "rx"
          refine rd_newQ (by simp) fun H4 P S4 nP hP => ?_
          refine q H4 P ⟨sMove, r.t, r.o, r.g.set tn c⟩ ((w12.trans w3).same S4) (by rw [hP, ← et]; rfl) ⟨ok.t0, ok.t1, .inr ⟨.inr rfl, src⟩, .inr (by show (r.g.set tn c).length = n; rw [List.length_set]; exact gl), fun x hx => ?_⟩ fun k => ?_
          · rcases List.mem_or_eq_of_mem_set hx with y | y
            · exact ok.gs x y
            · rw [y]; exact cs
          · have := k.2.2
            have e : (r.g.set tn c).getD r.t.toNat 0 = c := by
              rw [et, Int.toNat_natCast, List.getD_eq_getElem?_getD, List.getElem?_set_self tl]
              rfl
            rw [show (Ln.mk sMove r.t r.o (r.g.set tn c)).g.getD (Ln.mk sMove r.t r.o (r.g.set tn c)).t.toNat 0 = c from e] at this
            exact cn this
def sp_law_script_holds (_K : PySem.W.Frag) : Sp := fun vs H Q _ => ∃ (B : Box) (a : Addr) (es : List Int), vs = [.ref B.b, .ref a] ∧ IsBk B ∧ B.I H ∧ TG H a es ∧ Img es ∧ ∀ H', Wg B H H' → Q (.bl true) H'
set_option maxHeartbeats 4000000 in
theorem ok_law_script_holds (T : Top K mg) {f : Addr} {fd : FuncData} (D : Def K mg "_law_script_holds" s_law_script_holds ["box", "image"] f fd) : FnOk P w K mg base CX0 7 f fd ["box", "image"] (sp_law_script_holds K) := by
  obtain ⟨f_law_take, fd_law_take, D_law_take⟩ := T.d__law_take
  have G_law_take : FnOk P w K mg base CX0 1 f_law_take fd_law_take ["box", "limit"] (sp_law_take K) := ok_law_take T D_law_take
  obtain ⟨f_law_careful_asked, fd_law_careful_asked, D_law_careful_asked⟩ := T.d__law_careful_asked
  have G_law_careful_asked : FnOk P w K mg base CX0 6 f_law_careful_asked fd_law_careful_asked ["handed", "image"] (sp_law_careful_asked K) := ok_law_careful_asked T D_law_careful_asked
  obtain ⟨f_law_careful_line, fd_law_careful_line, D_law_careful_line⟩ := T.d__law_careful_line
  have G_law_careful_line : FnOk P w K mg base CX0 3 f_law_careful_line fd_law_careful_line ["box", "blocks"] (sp_law_careful_line K) := ok_law_careful_line T D_law_careful_line
  obtain ⟨f_law_with, fd_law_with, D_law_with⟩ := T.d__law_with
  have G_law_with : FnOk P w K mg base CX0 1 f_law_with fd_law_with ["image", "at", "entry"] (sp_law_with K) := ok_law_with T D_law_with
  obtain ⟨f_law_wrong_line, fd_law_wrong_line, D_law_wrong_line⟩ := T.d__law_wrong_line
  have G_law_wrong_line : FnOk P w K mg base CX0 2 f_law_wrong_line fd_law_wrong_line ["box", "blocks"] (sp_law_wrong_line K) := ok_law_wrong_line T D_law_wrong_line
  obtain ⟨f_law_other_line, fd_law_other_line, D_law_other_line⟩ := T.d__law_other_line
  have G_law_other_line : FnOk P w K mg base CX0 4 f_law_other_line fd_law_other_line ["box", "blocks"] (sp_law_other_line K) := ok_law_other_line T D_law_other_line
  obtain ⟨f_law_wrong, fd_law_wrong, D_law_wrong⟩ := T.d__law_wrong
  have G_law_wrong : FnOk P w K mg base CX0 2 f_law_wrong fd_law_wrong ["box"] (sp_law_wrong K) := ok_law_wrong T D_law_wrong
  refine D.F.ok sc_law_script_holds (fun vs H Q E h => ?_) (fun cdv A outer s H vs Q E hr h => ?_)
  · obtain ⟨B, a, es, rfl, _⟩ := h
    rfl
  · obtain ⟨B, a, es, rfl, hB, i0, ha, I, q⟩ := h
    obtain ⟨n, en⟩ : ∃ n : Nat, es.length = n := ⟨_, rfl⟩
    have n1 : 1 ≤ n := by have := I.1; omega
    have n12 : n ≤ 12 := by have := I.2.1; omega
    refine ⟨_, (pss_cons (ps_set (i := 2) sc_law_script_holds.nd rfl (.inr rfl) (pe_callB (r := rLenQ K) call_lenQ (by rfl) T.b_len PySem.boot_len (pa_cons (pv 1) pa_nil)))
    (pss_cons (ps_set (i := 3) sc_law_script_holds.nd rfl (.inl rfl) (pe_call G_law_take (hr.mono (by decide)) (by rfl) D_law_take.g D_law_take.F.kp D_law_take.b .nil pass0 (pa_cons (pv 0) (pa_cons pe_int pa_nil))))
    (C8.pss_cut (ps_if (pt_cmpR op_eq (pe_call G_law_take (hr.mono (by decide)) (by rfl) D_law_take.g D_law_take.F.kp D_law_take.b .nil pass0 (pa_cons (pv 0) (pa_cons pe_int pa_nil))) pe_int (nomark _)) (pss_one (ps_set (i := 3) sc_law_script_holds.nd rfl (.inl rfl) (pe_call G_law_take (hr.mono (by decide)) (by rfl) D_law_take.g D_law_take.F.kp D_law_take.b .nil pass0 (pa_cons (pv 0) (pa_cons pe_int pa_nil))))) pss_nil)
    (pss_cons (ps_set (i := 4) sc_law_script_holds.nd rfl (.inl rfl) (pe_lst pa_nil))
    (pss_cons (ps_set (i := 5) sc_law_script_holds.nd rfl (.inl rfl) (pe_lst pa_nil))
    (C8.pss_cut (ps_if (pt_cmpR op_gt (pv 2) pe_int (nomark _)) (pss_cons (ps_setLc (i := 4) (own := [("k", 11)]) (g := gName 11) (tt := tYes) rfl sc_law_script_holds.nd rfl rfl (sw_true rfl rfl rfl (by decide +kernel)) (pi_range1 (by rfl) T.b_range (pa_cons (pv 3) pa_nil))
      (blkOk_by (own := [("k", 11)]) (N := ["box", "image", "blocks", "count", "lines", "marks", "way", "turn", "at", "due", "handed", "k"]) (sc := defScope s_law_script_holds) (by decide +kernel)) (fun _ _ _ _ _ => (pg_name (i := 11) sc_law_script_holds.nd rfl (.inl rfl))) (fun _ _ _ _ _ => pts_nil)
      (fun _ _ _ _ _ => (pe_call G_law_careful_line (hr.mono (by decide)) (by rfl) D_law_careful_line.g D_law_careful_line.F.kp D_law_careful_line.b .nil pass0 (pa_cons (pv 0) (pa_cons (pv 2) pa_nil)))))
    (pss_one (ps_setLc (i := 5) (own := [("k", 11)]) (g := gName 11) (tt := tYes) rfl sc_law_script_holds.nd rfl rfl (sw_true rfl rfl rfl (by decide +kernel)) (pi_range1 (by rfl) T.b_range (pa_cons (pv 3) pa_nil))
      (blkOk_by (own := [("k", 11)]) (N := ["box", "image", "blocks", "count", "lines", "marks", "way", "turn", "at", "due", "handed", "k"]) (sc := defScope s_law_script_holds) (by decide +kernel)) (fun _ _ _ _ _ => (pg_name (i := 11) sc_law_script_holds.nd rfl (.inl rfl))) (fun _ _ _ _ _ => pts_nil)
      (fun _ _ _ _ _ => pe_int)))) pss_nil)
    (pss_cons (ps_set (i := 6) sc_law_script_holds.nd rfl (.inl rfl) (pe_call G_law_take (hr.mono (by decide)) (by rfl) D_law_take.g D_law_take.F.kp D_law_take.b .nil pass0 (pa_cons (pv 0) (pa_cons pe_int pa_nil))))
    (pss_cons (ps_for PassesOwn.never rfl (pi_range1 (by rfl) T.b_range (pa_cons (pe_ix (r := rIxL K) ix_list (pe_lst (pa_cons pe_int (pa_cons pe_int (pa_cons pe_int (pa_cons pe_int (pa_cons pe_int (pa_cons pe_int pa_nil))))))) (pv 6) (fun _ _ => rfl)) pa_nil)) (pg_name (i := 7) sc_law_script_holds.nd rfl (.inl rfl)) (pss_cons (ps_set (i := 8) sc_law_script_holds.nd rfl (.inl rfl) (pe_call G_law_take (hr.mono (by decide)) (by rfl) D_law_take.g D_law_take.F.kp D_law_take.b .nil pass0 (pa_cons (pv 0) (pa_cons (pe_op op_add (pe_callB (r := rLenQ K) call_lenQ (by rfl) T.b_len PySem.boot_len (pa_cons (pv 4) pa_nil)) pe_int) pa_nil))))
    (pss_one (ps_if (PW.pt (pw_and (pt_cmpR op_eq (pv 6) pe_int (nomark _)) (pw_and1 (pt_cmpR op_eq (pv 7) pe_int (nomark _))))) (pss_cons (ps_expr (pe_bm PySem.F.plainAttrs_list PySem.F.slot_list_insert PySem.F.type_list_insert mt_insQ (pv 4) (pa_cons (pv 8) (pa_cons (pe_call G_law_wrong_line (hr.mono (by decide)) (by rfl) D_law_wrong_line.g D_law_wrong_line.F.kp D_law_wrong_line.b .nil pass0 (pa_cons (pv 0) (pa_cons (pv 2) pa_nil))) pa_nil))))
    (pss_one (ps_expr (pe_bm PySem.F.plainAttrs_list PySem.F.slot_list_insert PySem.F.type_list_insert mt_insQ (pv 5) (pa_cons (pv 8) (pa_cons pe_int pa_nil)))))) (pss_cons (ps_expr (pe_bm PySem.F.plainAttrs_list PySem.F.slot_list_insert PySem.F.type_list_insert mt_insQ (pv 4) (pa_cons (pv 8) (pa_cons (pe_call G_law_other_line (hr.mono (by decide)) (by rfl) D_law_other_line.g D_law_other_line.F.kp D_law_other_line.b .nil pass0 (pa_cons (pv 0) (pa_cons (pv 2) pa_nil))) pa_nil))))
    (pss_one (ps_expr (pe_bm PySem.F.plainAttrs_list PySem.F.slot_list_insert PySem.F.type_list_insert mt_insQ (pv 5) (pa_cons (pv 8) (pa_cons pe_int pa_nil))))))))))
    (pss_cons (ps_set (i := 9) sc_law_script_holds.nd rfl (.inl rfl) (pe_lst (pa_cons pe_str (pa_cons pe_int pa_nil))))
    (C8.pss_cut (ps_if (pt_cmpR (r := rIn K false) op_in_seq pe_int (pv 5) (by rfl)) (pss_one (ps_set (i := 9) sc_law_script_holds.nd rfl (.inl rfl) (pe_lst (pa_cons pe_str (pa_cons (pe_bm PySem.F.plainAttrs_list PySem.F.slot_list_index PySem.F.type_list_index mt_index (pv 5) (pa_cons pe_int pa_nil)) pa_nil))))) pss_nil)
    (C8.pss_cut (ps_if (pt_cmpR (r := rIn K false) op_in_seq pe_int (pv 5) (by rfl)) (pss_one (ps_set (i := 9) sc_law_script_holds.nd rfl (.inl rfl) (pe_lst (pa_cons pe_str (pa_cons (pe_bm PySem.F.plainAttrs_list PySem.F.slot_list_index PySem.F.type_list_index mt_index (pv 5) (pa_cons pe_int pa_nil)) pa_nil))))) pss_nil)
    (pss_cons (ps_if (pt_cmpR op_eq (pv 6) pe_int (nomark _)) (pss_one (ps_ret (pe_cmpR (op_eqD hr.units) (pe_call G_law_careful_asked hr (by rfl) D_law_careful_asked.g D_law_careful_asked.F.kp D_law_careful_asked.b .nil pass0 (pa_cons (pe_callTy (r := rTupQ K) call_tupQ (by rfl) T.b_tuple (by decide +kernel) (pa_cons (pv 4) pa_nil)) (pa_cons (pv 1) pa_nil))) (pe_lst (pa_cons pe_str (pa_cons (pe_un un_neg pe_int) pa_nil))) (nomark _)))) pss_nil)
    (pss_cons (ps_if (pt_cmpR op_eq (pv 6) pe_int (nomark _)) (pss_one (ps_ret (pe_cmpR (op_eqD hr.units) (pe_call G_law_careful_asked hr (by rfl) D_law_careful_asked.g D_law_careful_asked.F.kp D_law_careful_asked.b .nil pass0 (pa_cons (pe_slice sl_list (pe_op op_cat (pv 4) (pe_op op_rep (pe_lst (pa_cons (pe_tup (pa_cons pe_str (pa_cons pe_int (pa_cons (pe_un un_neg pe_int) (pa_cons pe_str pa_nil))))) pa_nil)) pe_int)) po_none (po_some pe_int)) (pa_cons (pv 1) pa_nil))) (pe_lst (pa_cons pe_str (pa_cons (pe_un un_neg pe_int) pa_nil))) (nomark _)))) pss_nil)
    (pss_cons (ps_set (i := 10) sc_law_script_holds.nd rfl (.inl rfl) (pe_callTy (r := rLstQ K) call_lstQ (by rfl) T.b_list (by decide +kernel) (pa_cons (pv 4) pa_nil)))
    (pss_cons (ps_if (PW.pt (pw_or (pt_cmpR (op_neD hr.units) (pe_call G_law_careful_asked hr (by rfl) D_law_careful_asked.g D_law_careful_asked.F.kp D_law_careful_asked.b .nil pass0 (pa_cons (pv 10) (pa_cons (pv 1) pa_nil))) (pv 9) (nomark _)) (pw_or1 (pt_cmpR (op_neD hr.units) (pv 10) (pv 4) (nomark _))))) (pss_one (ps_ret pe_bl)) pss_nil)
    (pss_cons (ps_set (i := 8) sc_law_script_holds.nd rfl (.inl rfl) (pe_call G_law_take (hr.mono (by decide)) (by rfl) D_law_take.g D_law_take.F.kp D_law_take.b .nil pass0 (pa_cons (pv 0) (pa_cons (pv 2) pa_nil))))
    (pss_one (ps_ret (pe_cmpR (op_eqD hr.units) (pe_call G_law_careful_asked hr (by rfl) D_law_careful_asked.g D_law_careful_asked.F.kp D_law_careful_asked.b .nil pass0 (pa_cons (pv 10) (pa_cons (pe_call G_law_with (hr.mono (by decide)) (by rfl) D_law_with.g D_law_with.F.kp D_law_with.b .nil pass0 (pa_cons (pv 1) (pa_cons (pv 8) (pa_cons (pe_call G_law_wrong (hr.mono (by decide)) (by rfl) D_law_wrong.g D_law_wrong.F.kp D_law_wrong.b .nil pass0 (pa_cons (pv 0) pa_nil)) pa_nil)))) pa_nil))) (pe_lst (pa_cons pe_str (pa_cons (pv 8) pa_nil))) (nomark _)))))))))))))))))))), ?_⟩
    walk_at "rx"
    refine ⟨B, 7, rfl, hB, i0, by decide, by decide, fun H1 c0 w1 hc0 => ?_⟩
    walk_at "rx"
    rw [en]
    refine ⟨fun σ' H' => ∃ c : Nat, c ≤ 58 ∧ σ' = [some (.ref B.b), some (.ref a), some (.int (n : Int)), some (.int (c : Int)), none, none, none, none, none, none, none, none] ∧ Wg B H H', ?_, ?_⟩
    · walk_at "rx"
      refine ⟨B, 8, rfl, hB, w1.i1, by decide, by decide, fun H2 d w2 hd => ?_⟩
      walk_at "rx"
      refine ite2 (fun z => ?_) (fun z => ?_)
      · walk_at "rx"
        refine ⟨B, 59, rfl, hB, w2.i1, by decide, by decide, fun H3 c w3 hc => ?_⟩
        walk_at "rx"
        exact ⟨c, by omega, rfl, (w1.trans w2).trans w3⟩
      · walk_at "rx"
        exact ⟨c0, by omega, rfl, w1.trans w2⟩
    rintro σ' H2 ⟨c, c58, rfl, w2⟩
    have hr1 : -100000 ≤ (c : Int) ∧ (c : Int) ≤ 100000 := by omega
    walk_at "rx"
    refine rd_newQ (by simp) fun H3 L0 S3 nL0 hL0 => ?_
    walk_at "rx"
    refine rd_newQ (by simp) fun H4 M0 S4 nM0 hM0 => ?_
    have w4 := (w2.same S3).same S4
    have hL04 := S4 _ _ hL0
    have nLM0 : L0 ≠ M0 := fun z => by rw [z, nM0] at hL0; cases hL0
    walk_at "rx"
    refine ⟨fun σ' H' => ∃ (L Mr : Addr) (as : List Addr) (rs : List Ln), σ' = [some (.ref B.b), some (.ref a), some (.int (n : Int)), some (.int (c : Int)), some (.ref L), some (.ref Mr), none, none, none, none, none, none] ∧ Wg B H H' ∧ L ≠ Mr ∧ H L = none ∧ H Mr = none ∧ H' L = some (.lst (as.map V.ref)) ∧ TupsAt H' as (rows rs) ∧ H' Mr = some (.lst (nvs (List.replicate rs.length 0))) ∧ rs.length ≤ 58 ∧ ∀ r ∈ rs, LnOk n r ∧ Care r, ?_, ?_⟩
    · walk_at "rx"
      refine ite2 (fun z => ?_) (fun z => ?_)
      · have n2 : 2 ≤ n := by have : (1 : Int) < (n : Int) := of_decide_eq_true z; omega
        walk_at "rx"
        rw [show ((c : Int)).toNat = c by omega]
        refine lc_wg walk_rng w4.i1 (fun i acc Hx => i ≤ c ∧ ∃ (as : List Addr) (rs : List Ln), acc = as.map V.ref ∧ TupsAt Hx as (rows rs) ∧ rs.length = i ∧ ∀ r ∈ rs, LnOk n r ∧ Care r) (fun _ _ => ⟨Nat.zero_le _, [], [], rfl, TupsAt.nil, rfl, fun r hr => absurd hr List.not_mem_nil⟩) (fun i acc Ha Hb k p => by
          obtain ⟨il, as, rs, e, t, r⟩ := p
          exact ⟨il, as, rs, e, t.kt k, r⟩) ?_ (fun _ _ => trivial) ?_ ?_
        · rintro i acc Ha ⟨il, as, rs, rfl, t, l, _⟩
          have := t.1
          rw [rows_len] at this
          rw [List.length_map]
          omega
        · rintro i x Ha Hb acc Qc R hi wa ⟨il, as, rs, rfl, t, l, ok⟩ ⟨rfl, rfl⟩ qc rc
          walk_at "rx"
          refine ⟨rfl, ?_⟩
          walk_at "rx"
          refine ⟨B, n, rfl, hB, wa.i1, n2, n12, fun Hc D r wc hD k1 k2 _ => ?_⟩
          refine qc _ _ wc ⟨hi, as ++ [D], rs ++ [r], by rw [List.map_append]; rfl, by unfold rows; rw [List.map_append]; exact (t.wg wc).app hD, by rw [List.length_append, l]; rfl, fun x hx => ?_⟩
          rcases List.mem_append.mp hx with y | y
          · exact ok x y
          · rw [List.mem_singleton.mp y]; exact ⟨k1, k2⟩
        rintro H5 L acc w5 nL hL ⟨il, as, rs, rfl, t, l, ok⟩
        have w45 := w4.trans w5
        have nLH := w4.free nL
        walk_at "rx"
        rw [show ((c : Int)).toNat = c by omega]
        refine lc_acc walk_rng (fun i acc => acc = nvs (List.replicate i 0)) rfl (fun i acc hi e => by rw [e, nvs_len, List.length_replicate]; omega) (fun _ _ => trivial) ?_ ?_
        · rintro i x Hx Hy acc Qc R hi Sx e ⟨rfl, rfl⟩ qc rc
          walk_at "rx"
          refine ⟨rfl, ?_⟩
          walk_at "rx"
          refine qc _ _ (Same.refl _) ?_
          rw [e, List.replicate_succ', nvs_app]
          rfl
        intro H6 Mr acc S6 nM hM e
        rw [e] at hM
        have nLM : L ≠ Mr := fun z => by rw [z, nM] at hL; cases hL
        walk_at "rx"
        exact ⟨L, Mr, as, rs, rfl, w45.same S6, nLM, nLH, w45.free nM, S6 _ _ hL, t.same S6, by rw [l]; exact hM, by omega, ok⟩
      · walk_at "rx"
        exact ⟨L0, M0, [], [], rfl, w4, nLM0, w2.free nL0, (w2.same S3).free nM0, hL04, TupsAt.nil, hM0, Nat.zero_le _, fun r hr => absurd hr List.not_mem_nil⟩
    rintro σ' H5 ⟨L, Mr, as, rs, rfl, w5, nLM, nL, nM, hL5, t5, hM5, l58, ok5⟩
    have mL : L ∉ B.m := B.nem i0 nL
    have mM : Mr ∉ B.m := B.nem i0 nM
    have bm : ∀ x ∈ B.m, x ∈ L :: Mr :: B.m := fun x hx => List.mem_cons_of_mem _ (List.mem_cons_of_mem _ hx)
    have mk0 : ∀ (i : Nat) (it : Im) (m : Nat), (rs.map fun r => Im.tup r.vals)[i]? = some it → (List.replicate rs.length 0)[i]? = some m → MkL n m it := fun i it m e1 e2 => by
      rw [List.getElem?_map] at e1
      cases e3 : rs[i]? with
      | none => rw [e3] at e1; cases e1
      | some r =>
        rw [e3] at e1
        cases e1
        have k := ok5 r (List.mem_of_getElem? e3)
        rw [List.getElem?_replicate] at e2
        split at e2
        · cases e2
          exact .inl ⟨rfl, r, rfl, k.1, k.2⟩
        · cases e2
    have ls0 : LnMs n (rs.map fun r => .tup r.vals) (List.replicate rs.length 0) := ⟨by rw [List.length_map, List.length_replicate], mk0, fun it hit => by
      obtain ⟨r, hr, rfl⟩ := List.mem_map.mp hit
      exact ⟨wfOk (ok5 r hr).1 n12, imD_ok (ok5 r hr).1⟩⟩
    walk_at "rx"
    refine ⟨B, 6, rfl, hB, w5.i1, by decide, by decide, fun H6 way w6 hway => ?_⟩
    have hL6 := w6.lst mL hL5
    have hM6 := w6.lst mM hM5
    have t6 := t5.wg w6
    have w56 := w5.trans w6
    walk_at "rx"
    refine rd_newQ (by simp) fun H7 O S7 nO hO => ?_
    obtain ⟨x, ex, x2⟩ : ∃ x : Nat, atI [V.int 0, V.int 1, V.int 2, V.int 2, V.int 0, V.int 0] (way : Int) = some (.int (x : Int)) ∧ x ≤ 2 := by
      have : way = 0 ∨ way = 1 ∨ way = 2 ∨ way = 3 ∨ way = 4 ∨ way = 5 := by omega
      rcases this with rfl | rfl | rfl | rfl | rfl | rfl
      · exact ⟨0, rfl, by decide⟩
      · exact ⟨1, rfl, by decide⟩
      · exact ⟨2, rfl, by decide⟩
      · exact ⟨2, rfl, by decide⟩
      · exact ⟨0, rfl, by decide⟩
      · exact ⟨0, rfl, by decide⟩
    have hr2 : -100000 ≤ (x : Int) ∧ (x : Int) ≤ 100000 := by omega
    walk_at "rx"
    rw [show ((x : Int)).toNat = x by omega]
    refine fr_rng0 (fun i σ H' => ∃ (vs : List V) (is : List Im) (ms : List Nat) (y7 y8 : Option V), σ = [some (.ref B.b), some (.ref a), some (.int (n : Int)), some (.int (c : Int)), some (.ref L), some (.ref Mr), some (.int (way : Int)), y7, y8, none, none, none] ∧ Wg B H H' ∧ H' L = some (.lst vs) ∧ H' Mr = some (.lst (nvs ms)) ∧ ImsAt (L :: Mr :: B.m) H' vs is ∧ LnMs n is ms ∧ ms.length ≤ 58 + i)
      ⟨_, _, _, none, none, rfl, w56.same S7, S7 _ _ hL6, S7 _ _ hM6, (t6.same S7).ims, ls0, by rw [List.length_replicate]; omega⟩ ?_ ?_
    · rintro i σ Ha hi ⟨vs, is, ms, y7, y8, rfl, wa, hLa, hMa, ta, ls, l60⟩
      have lv := ta.len
      have lm := ls.len
      walk_at "rx"
      refine ⟨B, _, rfl, hB, wa.i1, by omega, by omega, fun Hb d wb hd => ?_⟩
      have hLb := wb.lst mL hLa
      have hMb := wb.lst mM hMa
      have tb := ta.wg wb bm
      walk_at "rx"
      refine ite2 (fun z => ?_) (fun z => ?_)
      · walk_at "rx"
        refine ite2 (fun z => ?_) (fun z => ?_)
        · walk_at "rx"
          refine ⟨B, n, rfl, hB, wb.i1, n1, n12, fun Hc v it wc iv wf dd ng => ?_⟩
          have hLc := wc.lst mL hLb
          have hMc := wc.lst mM hMb
          have iv2 : ImAt (L :: Mr :: B.m) Hc v it := iv.at_ fun x hx => by
            rcases List.mem_cons.mp hx with rfl | hx
            · rw [hLb]; exact fun z => nomatch z
            · rcases List.mem_cons.mp hx with rfl | hx
              · rw [hMb]; exact fun z => nomatch z
              · obtain ⟨ys, ey⟩ := B.live _ wb.i1 x (B.sub _ hx)
                rw [ey]; exact fun z => nomatch z
          walk_at "rx"
          refine rd_insQ (k := d) hLc (by omega) (by omega) ?_
          have hL2 : (upd Hc L (.lst (vs.take d ++ [v] ++ vs.drop d))) L = some (.lst (vs.take d ++ [v] ++ vs.drop d)) := upd_same
          have hM2 : (upd Hc L (.lst (vs.take d ++ [v] ++ vs.drop d))) Mr = some (.lst (nvs ms)) := by rw [upd_ne nLM.symm]; exact hMc
          have t2 : ImsAt (L :: Mr :: B.m) (upd Hc L (.lst (vs.take d ++ [v] ++ vs.drop d))) (vs.take d ++ [v] ++ vs.drop d) (is.take d ++ [it] ++ is.drop d) := ((tb.wg wc bm).ins iv2 (by omega)).chg hLc (List.mem_cons_self ..)
          have ls2 := ls.ins (it := it) (m := 2) (k := d) (by omega) (.inr (.inr ⟨rfl, ng⟩)) wf dd
          have w2 : Wg B H (upd Hc L (.lst (vs.take d ++ [v] ++ vs.drop d))) := ((wa.trans wb).trans wc).mut nL
          generalize upd Hc L (.lst (vs.take d ++ [v] ++ vs.drop d)) = He at *
          walk_at "rx"
          refine rd_insQ (k := d) hM2 (by rw [nvs_len]; omega) (by omega) ?_
          rw [show V.int 2 = V.int ((2 : Nat) : Int) from rfl, nvs_ins]
          walk_at "rx"
          exact ⟨_, _, _, _, _, rfl, w2.mut nM, by rw [upd_ne nLM]; exact hL2, upd_same, t2.chg hM2 (List.mem_cons_of_mem _ (List.mem_cons_self ..)), ls2, by simp only [List.length_append, List.length_take, List.length_drop, List.length_singleton]; omega⟩
        · walk_at "rx"
          refine ⟨B, n, rfl, hB, wb.i1, n1, n12, fun Hc D r wc hD ok nc => ?_⟩
          have hLc := wc.lst mL hLb
          have hMc := wc.lst mM hMb
          walk_at "rx"
          refine rd_insQ (k := d) hLc (by omega) (by omega) ?_
          have hL2 : (upd Hc L (.lst (vs.take d ++ [V.ref D] ++ vs.drop d))) L = some (.lst (vs.take d ++ [V.ref D] ++ vs.drop d)) := upd_same
          have hM2 : (upd Hc L (.lst (vs.take d ++ [V.ref D] ++ vs.drop d))) Mr = some (.lst (nvs ms)) := by rw [upd_ne nLM.symm]; exact hMc
          have t2 : ImsAt (L :: Mr :: B.m) (upd Hc L (.lst (vs.take d ++ [V.ref D] ++ vs.drop d))) (vs.take d ++ [V.ref D] ++ vs.drop d) (is.take d ++ [.tup r.vals] ++ is.drop d) := ((tb.wg wc bm).ins (it := .tup r.vals) ⟨D, rfl, hD⟩ (by omega)).chg hLc (List.mem_cons_self ..)
          have ls2 := ls.ins (it := .tup r.vals) (m := 1) (k := d) (by omega) (.inr (.inl ⟨rfl, r, rfl, ok, nc⟩)) (wfOk ok n12) (imD_ok ok)
          have w2 : Wg B H (upd Hc L (.lst (vs.take d ++ [V.ref D] ++ vs.drop d))) := ((wa.trans wb).trans wc).mut nL
          generalize upd Hc L (.lst (vs.take d ++ [V.ref D] ++ vs.drop d)) = He at *
          walk_at "rx"
          refine rd_insQ (k := d) hM2 (by rw [nvs_len]; omega) (by omega) ?_
          rw [show V.int 1 = V.int ((1 : Nat) : Int) from rfl, nvs_ins]
          walk_at "rx"
          exact ⟨_, _, _, _, _, rfl, w2.mut nM, by rw [upd_ne nLM]; exact hL2, upd_same, t2.chg hM2 (List.mem_cons_of_mem _ (List.mem_cons_self ..)), ls2, by simp only [List.length_append, List.length_take, List.length_drop, List.length_singleton]; omega⟩
      · walk_at "rx"
        refine ⟨B, n, rfl, hB, wb.i1, n1, n12, fun Hc D r wc hD ok nc => ?_⟩
        have hLc := wc.lst mL hLb
        have hMc := wc.lst mM hMb
        walk_at "rx"
        refine rd_insQ (k := d) hLc (by omega) (by omega) ?_
        have hL2 : (upd Hc L (.lst (vs.take d ++ [V.ref D] ++ vs.drop d))) L = some (.lst (vs.take d ++ [V.ref D] ++ vs.drop d)) := upd_same
        have hM2 : (upd Hc L (.lst (vs.take d ++ [V.ref D] ++ vs.drop d))) Mr = some (.lst (nvs ms)) := by rw [upd_ne nLM.symm]; exact hMc
        have t2 : ImsAt (L :: Mr :: B.m) (upd Hc L (.lst (vs.take d ++ [V.ref D] ++ vs.drop d))) (vs.take d ++ [V.ref D] ++ vs.drop d) (is.take d ++ [.tup r.vals] ++ is.drop d) := ((tb.wg wc bm).ins (it := .tup r.vals) ⟨D, rfl, hD⟩ (by omega)).chg hLc (List.mem_cons_self ..)
        have ls2 := ls.ins (it := .tup r.vals) (m := 1) (k := d) (by omega) (.inr (.inl ⟨rfl, r, rfl, ok, nc⟩)) (wfOk ok n12) (imD_ok ok)
        have w2 : Wg B H (upd Hc L (.lst (vs.take d ++ [V.ref D] ++ vs.drop d))) := ((wa.trans wb).trans wc).mut nL
        generalize upd Hc L (.lst (vs.take d ++ [V.ref D] ++ vs.drop d)) = He at *
        walk_at "rx"
        refine rd_insQ (k := d) hM2 (by rw [nvs_len]; omega) (by omega) ?_
        rw [show V.int 1 = V.int ((1 : Nat) : Int) from rfl, nvs_ins]
        walk_at "rx"
        exact ⟨_, _, _, _, _, rfl, w2.mut nM, by rw [upd_ne nLM]; exact hL2, upd_same, t2.chg hM2 (List.mem_cons_of_mem _ (List.mem_cons_self ..)), ls2, by simp only [List.length_append, List.length_take, List.length_drop, List.length_singleton]; omega⟩
    rintro σ H8 ⟨vs, is, ms, y7, y8, rfl, w8, hL8, hM8, t8, ls, l60⟩
    have lv := t8.len
    have lm := ls.len
    have ha8 := ha.wg w8
    have e8 : IG H8 (.ref a) es := ⟨a, rfl, ha8, I⟩
    walk_at "rx"
    refine rd_newQ (by simp) fun H9 D0 S9 nD0 hD0 => ?_
    have hM9 := S9 _ _ hM8
    walk_at "rx"
    refine ⟨fun σ' H' => ∃ (D : Addr) (s : Str) (k : Int), σ' = [some (.ref B.b), some (.ref a), some (.int (n : Int)), some (.int (c : Int)), some (.ref L), some (.ref Mr), some (.int (way : Int)), y7, y8, some (.ref D), none, none] ∧ Same H8 H' ∧ H' D = some (.lst [.str s, .int k]) ∧ ((1 ∉ ms ∧ s = sLet ∧ k = 1) ∨ ∃ j : Nat, ms[j]? = some 1 ∧ (∀ m : Nat, m < j → ms[m]? ≠ some 1) ∧ s = sCare ∧ k = (j : Int)), ?_, ?_⟩
    · walk_at "rx"
      refine rd_inLf hM9 rfl (nvs_flat _) ?_
      rw [show V.int 1 = V.int ((1 : Nat) : Int) from rfl, nvs_in]
      by_cases z : 1 ∈ ms
      · rw [decide_eq_true z]
        obtain ⟨j, ej, no⟩ := first_in z
        obtain ⟨ej2, no2⟩ := first_niz ej no
        have hM92 : H9 Mr = some (.lst ((niz ms).map V.int)) := hM9
        walk_at "rx"
        refine rd_idx hM92 ej2 no2 ?_
        walk_at "rx"
        refine rd_newQ (by simp) fun H10 D S10 nD hD => ?_
        exact ⟨D, sCare, j, rfl, S9.trans S10, hD, .inr ⟨j, ej, no, rfl, rfl⟩⟩
      · rw [decide_eq_false z]
        walk_at "rx"
        exact ⟨D0, sLet, 1, rfl, S9, hD0, .inl ⟨z, rfl, rfl⟩⟩
    rintro σ' H10 ⟨D1, s1, k1, rfl, S10, hD1, due1⟩
    have hM10 := S10 _ _ hM8
    walk_at "rx"
    refine ⟨fun σ' H' => ∃ (D : Addr) (s : Str) (k : Int), σ' = [some (.ref B.b), some (.ref a), some (.int (n : Int)), some (.int (c : Int)), some (.ref L), some (.ref Mr), some (.int (way : Int)), y7, y8, some (.ref D), none, none] ∧ Same H8 H' ∧ H' D = some (.lst [.str s, .int k]) ∧ PyData.strOk s = true ∧ ∀ (l : Addr) (Hz : Hp), Same H8 Hz → Hz l = some (.lst vs) → CA Hz (.ref l) (.ref a) s k, ?_, ?_⟩
    · walk_at "rx"
      refine rd_inLf hM10 rfl (nvs_flat _) ?_
      rw [show V.int 2 = V.int ((2 : Nat) : Int) from rfl, nvs_in]
      by_cases z : 2 ∈ ms
      · rw [decide_eq_true z]
        obtain ⟨j, ej, no⟩ := first_in z
        obtain ⟨ej2, no2⟩ := first_niz ej no
        have hM102 : H10 Mr = some (.lst ((niz ms).map V.int)) := hM10
        walk_at "rx"
        refine rd_idx hM102 ej2 no2 ?_
        walk_at "rx"
        refine rd_newQ (by simp) fun H11 D S11 nD hD => ?_
        exact ⟨D, sLine, j, rfl, S10.trans S11, hD, by decide +kernel, fun l Hz Sz hl => .inr (.inr (.inl ⟨rfl, es, e8.same Sz, by rw [en]; exact ls.two hl (t8.same Sz) (by omega) ej no⟩))⟩
      · rw [decide_eq_false z]
        walk_at "rx"
        refine ⟨D1, s1, k1, rfl, S10, hD1, ?_, fun l Hz Sz hl => ?_⟩
        · rcases due1 with ⟨_, e, _⟩ | ⟨j, _, _, e, _⟩ <;> rw [e] <;> decide +kernel
        · obtain ⟨rs2, ys, ei⟩ := ls.yes hl (t8.same Sz) (by omega) z
          rw [ei] at ls
          rcases due1 with ⟨n1', e, ek⟩ | ⟨j, ej, no, e, ek⟩
          · exact .inl ⟨e, ek, es, rs2, e8.same Sz, by rw [en]; exact ys, fun r hr => by
              obtain ⟨i, hi⟩ := List.getElem?_of_mem hr
              exact (ls.care hi z).mpr fun y => n1' (List.mem_of_getElem? y)⟩
          · have lj := (List.getElem?_eq_some_iff.mp ej).1
            have lr : j < rs2.length := by have := ls.len; rw [List.length_map] at this; omega
            exact .inr (.inr (.inr ⟨e, es, rs2, j, e8.same Sz, by rw [en]; exact ys, ek, ⟨_, List.getElem?_eq_getElem lr, fun c => (ls.care (List.getElem?_eq_getElem lr) z).mp c ej⟩, fun i r hi er => (ls.care er z).mpr (no i hi)⟩))
    rintro σ' H11 ⟨D, s, k, rfl, S11, hD, sOk, ca⟩
    have hL11 := S11 _ _ hL8
    have w11 := w8.same S11
    have shp : ∀ (s : Str) (k : Int), PyData.strOk s = true → Sh 1 (.list [PyData.str s, PyData.int k]) := fun s k h => Sh.list fun e he => by
      simp only [List.mem_cons, List.not_mem_nil, or_false] at he
      rcases he with rfl | rfl
      · exact Sh.str h
      · exact Sh.int _
    have dpl : ∀ {Hz : Hp} {d : Addr} {s : Str} {k : Int}, Hz d = some (.lst [.str s, .int k]) → Dp K Hz (.ref d) (.list [PyData.str s, PyData.int k]) := fun h => .lst (SqL.of h) (.cons (.str _) (.cons (.int _) .nil))
    have okL : PyData.strOk sLine = true := by decide +kernel
    have okI : PyData.strOk sImage = true := by decide +kernel
    walk_at "rx"
    refine ite2 (fun z => ?_) (fun z => ?_)
    · walk_at "rx"
      refine rd_newL fun H12 T2 S12 nT hT => ?_
      have S812 := S11.trans S12
      walk_at "rx"
      refine ⟨.ref T2, .ref a, sLine, -1, rfl, .inr (.inr (.inl ⟨rfl, es, e8.same S812, .inl ⟨rfl, .inr (.inl ⟨T2, vs, rfl, hT⟩)⟩⟩)), fun H13 D2 S13 hD2 => ?_⟩
      walk_at "rx"
      refine rd_newQ (by simp) fun H14 D3 S14 nD3 hD3 => ?_
      have hD24 := S14 _ _ hD2
      refine rd_eqd (dpl hD24) (dpl hD3) (shp _ _ okL) (by decide) ?_
      exact q _ (((w11.same S12).same S13).same S14)
    walk_at "rx"
    refine ite2 (fun z => ?_) (fun z => ?_)
    · walk_at "rx"
      refine rd_newQ (by simp) fun H12 P S12 nP hP => ?_
      walk_at "rx"
      refine rd_newQ (by simp) fun H13 L1 S13 nL1 hL1 => ?_
      walk_at "rx"
      refine rd_rep (k := 61) hL1 (by decide) (by decide) (by simp) fun L2 nL2 => ?_
      obtain ⟨H14, eH, S14, hL2⟩ := new_gen (.lst (List.replicate ((61 : Int)).toNat [V.ref P]).flatten) nL2
      rw [← eH]
      rw [flat_one] at hL2
      have hL14 := S14 _ _ (S13 _ _ (S12 _ _ hL11))
      refine rd_catLN hL14 hL2 (by rw [List.length_replicate]; have : ((61 : Int)).toNat = 61 := rfl; omega) ?_
      refine rd_newL fun H15 L3 S15 nL3 hL3 => ?_
      walk_at "rx"
      refine rd_newL fun H16 L4 S16 nL4 hL4 => ?_
      rw [show (61 : Int) = ((61 : Nat) : Int) from rfl, cut_to (by rw [List.length_append, List.length_replicate]; have : ((61 : Int)).toNat = 61 := rfl; omega)] at hL4
      have S816 := ((((S11.trans S12).trans S13).trans S14).trans S15).trans S16
      have l4 : ((vs ++ List.replicate (((61 : Nat) : Int)).toNat (V.ref P)).take 61).length = 61 := by
        rw [List.length_take, List.length_append, List.length_replicate]
        have : (((61 : Nat) : Int)).toNat = 61 := rfl
        omega
      walk_at "rx"
      refine ⟨.ref L4, .ref a, sLine, -1, rfl, .inr (.inr (.inl ⟨rfl, es, e8.same S816, .inl ⟨rfl, .inr (.inr ⟨L4, _, rfl, hL4, by rw [l4]; decide, by rw [l4]; decide⟩)⟩⟩)), fun H17 D2 S17 hD2 => ?_⟩
      walk_at "rx"
      refine rd_newQ (by simp) fun H18 D3 S18 nD3 hD3 => ?_
      have hD24 := S18 _ _ hD2
      refine rd_eqd (dpl hD24) (dpl hD3) (shp _ _ okL) (by decide) ?_
      exact q _ (((((((w11.same S12).same S13).same S14).same S15).same S16).same S17).same S18)
    walk_at "rx"
    refine rd_newL fun H12 hd S12 nhd hhd => ?_
    have S812 := S11.trans S12
    walk_at "rx"
    refine ⟨.ref hd, .ref a, s, k, rfl, ca hd H12 S812 hhd, fun H13 D2 S13 hD2 => ?_⟩
    have hD13 := S13 _ _ (S12 _ _ hD)
    walk_at "rx"
    refine rd_ned (dpl hD2) (dpl hD13) (shp _ _ sOk) (by decide) ?_
    have hhd13 := S13 _ _ hhd
    have hL13 := S13 _ _ (S12 _ _ hL11)
    have S813 := S812.trans S13
    obtain ⟨ds, sd, dp⟩ := ims_dp (K := K) (t8.same S813) fun it hit => (ls.ok it hit).2
    walk_at "rx"
    refine rd_ned (d := .list ds) (.lst (SqL.of hhd13) dp) (.lst (SqL.of hL13) dp) (Sh.list sd) (by decide) ?_
    have w13 := w8.same S813
    walk_at "rx"
    refine ⟨B, n, rfl, hB, w13.i1, by omega, by omega, fun H14 t w14 ht => ?_⟩
    walk_at "rx"
    refine ⟨B, rfl, hB, w14.i1, fun H15 e w15 ne => ?_⟩
    have ha15 := ((ha8.same S813).wg w14).wg w15
    walk_at "rx"
    refine ⟨a, es, t, e, rfl, ha15, by omega, by omega, fun H16 U S16 tU => ?_⟩
    walk_at "rx"
    refine ⟨.ref hd, .ref U, sImage, (t : Int), rfl, .inr (.inl ⟨rfl, [], ib_set tU I (by omega) ne⟩), fun H17 D3 S17 hD3 => ?_⟩
    walk_at "rx"
    refine rd_newQ (by simp) fun H18 D4 S18 nD4 hD4 => ?_
    have hD318 := S18 _ _ hD3
    refine rd_eqd (dpl hD318) (dpl hD4) (shp _ _ okI) (by decide) ?_
    exact q _ (((((w13.trans w14).trans w15).same S16).same S17).same S18)
def sp_law_some_twice (_K : PySem.W.Frag) : Sp := fun vs H Q _ => ∃ (B : Box) (a : Addr) (es : List Int), vs = [.ref B.b, .ref a] ∧ IsBk B ∧ B.I H ∧ TG H a es ∧ Img es ∧ ∀ H' b fs, Wg B H H' → TG H' b fs → Img fs → Q (.ref b) H'
set_option maxHeartbeats 4000000 in
theorem ok_law_some_twice (T : Top K mg) {f : Addr} {fd : FuncData} (D : Def K mg "_law_some_twice" s_law_some_twice ["box", "image"] f fd) : FnOk P w K mg base CX0 2 f fd ["box", "image"] (sp_law_some_twice K) := by
  obtain ⟨f_law_with, fd_law_with, D_law_with⟩ := T.d__law_with
  have G_law_with : FnOk P w K mg base CX0 1 f_law_with fd_law_with ["image", "at", "entry"] (sp_law_with K) := ok_law_with T D_law_with
  obtain ⟨f_law_take, fd_law_take, D_law_take⟩ := T.d__law_take
  have G_law_take : FnOk P w K mg base CX0 1 f_law_take fd_law_take ["box", "limit"] (sp_law_take K) := ok_law_take T D_law_take
  refine D.F.ok sc_law_some_twice (fun vs H Q E h => ?_) (fun cdv A outer s H vs Q E hr h => ?_)
  · obtain ⟨B, a, es, rfl, _⟩ := h
    rfl
  · obtain ⟨B, a, es, rfl, hB, i0, ha, I, q⟩ := h
    have e1 := I.1
    have e12 := I.2.1
    refine ⟨_, (pss_cons (ps_if (pt_cmpR op_eq (pe_call G_law_take hr (by rfl) D_law_take.g D_law_take.F.kp D_law_take.b .nil pass0 (pa_cons (pv 0) (pa_cons pe_int pa_nil))) pe_int (nomark _)) (pss_one (ps_ret (pv 1))) pss_nil)
    (pss_one (ps_ret (pe_call G_law_with hr (by rfl) D_law_with.g D_law_with.F.kp D_law_with.b .nil pass0 (pa_cons (pv 1) (pa_cons (pe_call G_law_take hr (by rfl) D_law_take.g D_law_take.F.kp D_law_take.b .nil pass0 (pa_cons (pv 0) (pa_cons (pe_callB (r := rLenQ K) call_lenQ (by rfl) T.b_len PySem.boot_len (pa_cons (pv 1) pa_nil)) pa_nil))) (pa_cons (pe_ix (r := rIxT K) ix_tup (pv 1) (pe_call G_law_take hr (by rfl) D_law_take.g D_law_take.F.kp D_law_take.b .nil pass0 (pa_cons (pv 0) (pa_cons (pe_callB (r := rLenQ K) call_lenQ (by rfl) T.b_len PySem.boot_len (pa_cons (pv 1) pa_nil)) pa_nil))) (fun _ _ => rfl)) pa_nil))))))), ?_⟩
    walk_at "rx"
    refine ⟨B, 2, rfl, hB, i0, by decide, by decide, fun H1 d w1 hd => ?_⟩
    have ha1 := ha.wg w1
    walk_at "rx"
    refine ite2 (fun z => ?_) (fun z => ?_)
    · walk_at "rx"
      exact q H1 a es w1 ha1 I
    walk_at "rx"
    refine ⟨B, _, rfl, hB, w1.i1, by omega, by omega, fun H2 i w2 hi => ?_⟩
    have ha2 := ha1.wg w2
    walk_at "rx"
    refine ⟨B, _, rfl, hB, w2.i1, by omega, by omega, fun H3 j w3 hj => ?_⟩
    have ha3 := ha2.wg w3
    have aj : atI (es.map V.int) (j : Int) = some (.int (es.getD j 0)) := atI_ints (by omega) (by omega)
    walk_at "rx"
    exact ⟨a, es, i, _, rfl, ha3, by omega, e12, fun H4 b S4 tb => q H4 b _ (((w1.trans w2).trans w3).same S4) tb (img_set I (I.2.2 _ (mem_at (by omega))))⟩
def splaw (K : PySem.W.Frag) : Sp := fun vs H Q _ => ∃ (a : Addr) (ns : List Int), vs = [.ref a] ∧ SqL K H a (ns.map V.int) ∧ ns.length ≤ 63 ∧ ∀ H', Q (.bl true) H'
set_option maxHeartbeats 4000000 in
theorem oklaw (T : Top K mg) {f : Addr} {fd : FuncData} (D : Def K mg "law" slaw ["script"] f fd) : FnOk P w K mg base CX0 9 f fd ["script"] (splaw K) := by
  obtain ⟨f_law_box, fd_law_box, D_law_box⟩ := T.d__law_box
  have G_law_box : FnOk P w K mg base CX0 1 f_law_box fd_law_box ["script", "at"] (sp_law_box K) := ok_law_box T D_law_box
  obtain ⟨f_law_before, fd_law_before, D_law_before⟩ := T.d__law_before
  have G_law_before : FnOk P w K mg base CX0 3 f_law_before fd_law_before ["box"] (sp_law_before K) := ok_law_before T D_law_before
  obtain ⟨f_law_after, fd_law_after, D_law_after⟩ := T.d__law_after
  have G_law_after : FnOk P w K mg base CX0 3 f_law_after fd_law_after ["box", "before"] (sp_law_after K) := ok_law_after T D_law_after
  obtain ⟨f_law_pair_holds, fd_law_pair_holds, D_law_pair_holds⟩ := T.d__law_pair_holds
  have G_law_pair_holds : FnOk P w K mg base CX0 7 f_law_pair_holds fd_law_pair_holds ["before", "after"] (sp_law_pair_holds K) := ok_law_pair_holds T D_law_pair_holds
  obtain ⟨f_law_refusals_hold, fd_law_refusals_hold, D_law_refusals_hold⟩ := T.d__law_refusals_hold
  have G_law_refusals_hold : FnOk P w K mg base CX0 8 f_law_refusals_hold fd_law_refusals_hold ["box", "before", "after"] (sp_law_refusals_hold K) := ok_law_refusals_hold T D_law_refusals_hold
  obtain ⟨f_law_script_holds, fd_law_script_holds, D_law_script_holds⟩ := T.d__law_script_holds
  have G_law_script_holds : FnOk P w K mg base CX0 7 f_law_script_holds fd_law_script_holds ["box", "image"] (sp_law_script_holds K) := ok_law_script_holds T D_law_script_holds
  obtain ⟨f_law_some_twice, fd_law_some_twice, D_law_some_twice⟩ := T.d__law_some_twice
  have G_law_some_twice : FnOk P w K mg base CX0 2 f_law_some_twice fd_law_some_twice ["box", "image"] (sp_law_some_twice K) := ok_law_some_twice T D_law_some_twice
  refine D.F.ok sclaw (fun vs H Q E h => ?_) (fun cdv A outer s H vs Q E hr h => ?_)
  · obtain ⟨a, ns, rfl, _⟩ := h
    rfl
  · obtain ⟨a, ns, rfl, hS, hl, q⟩ := h
    have keepR : ∀ {H1 H2 : Hp} {b : Addr}, H1 b = none → (∀ x o, x ≠ b → H1 x = some o → H2 x = some o) → SqL K H1 a (ns.map V.int) → SqL K H2 a (ns.map V.int) := fun {H1 H2 b} nb k h => by
      rcases h with (h | ⟨o, h⟩) | h
      · exact .inl (.inl (k _ _ (fun z => by rw [z, nb] at h; cases h) h))
      · exact .inl (.inr ⟨o, k _ _ (fun z => by rw [z, nb] at h; cases h) h⟩)
      · exact .inr h
    have keepS : ∀ {H1 H2 : Hp}, Same H1 H2 → SqL K H1 a (ns.map V.int) → SqL K H2 a (ns.map V.int) := fun S h => by
      rcases h with (h | ⟨o, h⟩) | h
      · exact .inl (.inl (S _ _ h))
      · exact .inl (.inr ⟨o, S _ _ h⟩)
      · exact .inr h
    have keepW : ∀ {H1 H2 H3 : Hp} {b : Addr}, H1 b = none → Same H1 H2 → Wg (bkL b) H2 H3 → SqL K H1 a (ns.map V.int) → SqL K H3 a (ns.map V.int) := fun nb S w h => keepR nb (fun x o ne e => w.keep x o (fun z => ne (List.mem_singleton.mp z)) (S _ _ e)) h
    refine ⟨_, (pss_cons (ps_for PassesOwn.never rfl (pi_range1 (by rfl) T.b_range (pa_cons (pe_callB (call_minQ rfl) (by rfl) T.b_min (by decide +kernel) (pa_cons pe_int (pa_cons (pe_callB (call_max2 rfl) (by rfl) T.b_max (by decide +kernel) (pa_cons pe_int (pa_cons (pe_op op_fdivN (pe_op op_add (pe_callB (r := rLenQ K) call_lenQ (by rfl) T.b_len PySem.boot_len (pa_cons (pv 0) pa_nil)) pe_int) pe_int) pa_nil))) pa_nil))) pa_nil)) (pg_name (i := 1) sclaw.nd rfl (.inl rfl)) (pss_cons (ps_set (i := 2) sclaw.nd rfl (.inl rfl) (pe_call G_law_box (hr.mono (by decide)) (by rfl) D_law_box.g D_law_box.F.kp D_law_box.b .nil pass0 (pa_cons (pv 0) (pa_cons (pe_op op_mul pe_int (pv 1)) pa_nil))))
    (pss_cons (ps_set (i := 3) sclaw.nd rfl (.inl rfl) (pe_call G_law_before (hr.mono (by decide)) (by rfl) D_law_before.g D_law_before.F.kp D_law_before.b .nil pass0 (pa_cons (pv 2) pa_nil)))
    (pss_cons (ps_set (i := 4) sclaw.nd rfl (.inl rfl) (pe_call G_law_after (hr.mono (by decide)) (by rfl) D_law_after.g D_law_after.F.kp D_law_after.b .nil pass0 (pa_cons (pv 2) (pa_cons (pv 3) pa_nil))))
    (pss_cons (ps_if (pt_not (pt_val (pe_call G_law_pair_holds (hr.mono (by decide)) (by rfl) D_law_pair_holds.g D_law_pair_holds.F.kp D_law_pair_holds.b .nil pass0 (pa_cons (pv 3) (pa_cons (pv 4) pa_nil))))) (pss_one (ps_ret pe_bl)) pss_nil)
    (pss_cons (ps_if (pt_not (pt_val (pe_call G_law_refusals_hold hr (by rfl) D_law_refusals_hold.g D_law_refusals_hold.F.kp D_law_refusals_hold.b .nil pass0 (pa_cons (pe_call G_law_box (hr.mono (by decide)) (by rfl) D_law_box.g D_law_box.F.kp D_law_box.b .nil pass0 (pa_cons (pv 0) (pa_cons (pe_op op_add (pe_op op_mul pe_int (pv 1)) pe_int) pa_nil))) (pa_cons (pv 3) (pa_cons (pv 4) pa_nil)))))) (pss_one (ps_ret pe_bl)) pss_nil)
    (pss_cons (ps_set (i := 2) sclaw.nd rfl (.inl rfl) (pe_call G_law_box (hr.mono (by decide)) (by rfl) D_law_box.g D_law_box.F.kp D_law_box.b .nil pass0 (pa_cons (pv 0) (pa_cons (pe_op op_add (pe_op op_mul pe_int (pv 1)) pe_int) pa_nil))))
    (pss_one (ps_if (pt_not (pt_val (pe_call G_law_script_holds (hr.mono (by decide)) (by rfl) D_law_script_holds.g D_law_script_holds.F.kp D_law_script_holds.b .nil pass0 (pa_cons (pv 2) (pa_cons (pe_call G_law_some_twice (hr.mono (by decide)) (by rfl) D_law_some_twice.g D_law_some_twice.F.kp D_law_some_twice.b .nil pass0 (pa_cons (pv 2) (pa_cons (pv 3) pa_nil))) pa_nil))))) (pss_one (ps_ret pe_bl)) pss_nil)))))))))
    (pss_one (ps_ret pe_bl))), ?_⟩
    walk_at "rx"
    refine ⟨a, _, rfl, .inl hS, ?_⟩
    walk_at "rx"
    refine ⟨_, _, rfl, ?_⟩
    walk_at "rx"
    rw [List.length_map]
    obtain ⟨m, em, m21⟩ : ∃ m : Nat, (if (if (((ns.length : Nat) : Int) + 2).fdiv 3 > 1 then (((ns.length : Nat) : Int) + 2).fdiv 3 else 1) < 21 then (if (((ns.length : Nat) : Int) + 2).fdiv 3 > 1 then (((ns.length : Nat) : Int) + 2).fdiv 3 else 1) else 21) = (m : Int) ∧ m ≤ 21 := by
      rw [Int.fdiv_eq_ediv_of_nonneg _ (by decide)]
      by_cases k : (((ns.length : Nat) : Int) + 2) / 3 > 1
      · rw [if_pos k]
        by_cases y : (((ns.length : Nat) : Int) + 2) / 3 < 21
        · rw [if_pos y]
          exact ⟨((((ns.length : Nat) : Int) + 2) / 3).toNat, by omega, by omega⟩
        · rw [if_neg y]
          exact ⟨21, rfl, by decide⟩
      · rw [if_neg k]
        exact ⟨1, rfl, by decide⟩
    rw [em]
    have hr1 : -100000 ≤ (m : Int) ∧ (m : Int) ≤ 100000 := by omega
    walk_at "rx"
    rw [show ((m : Int)).toNat = m by omega]
    refine fr_rng0 (fun i σ H' => ∃ (y1 y2 y3 y4 : Option V), σ = [some (.ref a), y1, y2, y3, y4] ∧ SqL K H' a (ns.map V.int)) ⟨none, none, none, none, rfl, hS⟩ ?_ ?_
    · rintro i σ H1 hi ⟨y1, y2, y3, y4, rfl, h1⟩
      walk_at "rx"
      refine ⟨a, ns, 3 * i, by rw [show ((3 * i : Nat) : Int) = 3 * (i : Int) by omega], h1, hl, by omega, fun H2 b S2 nb i2 => ?_⟩
      have w2 := Wg.refl i2
      walk_at "rx"
      refine ⟨bkL b, rfl, ⟨b, rfl⟩, i2, fun H3 p es w3 gp I nd => ?_⟩
      walk_at "rx"
      refine ⟨bkL b, p, es, rfl, ⟨b, rfl⟩, w3.i1, .inr gp, I, nd, fun H4 q2 fs w4 gq R => ?_⟩
      have J : Img fs := ⟨by rw [← R.len]; exact I.1, by rw [← R.len]; exact I.2.1, fun x hx => I.2.2 x (R.pm.mem_iff.mpr hx)⟩
      have r4 : RP H4 p q2 es fs := ⟨gp.wg w4, gq, I, J, R⟩
      have h4 := keepW nb S2 (w3.trans w4) h1
      walk_at "rx"
      refine ⟨p, q2, es, fs, rfl, r4, fun H5 S5 => ?_⟩
      have h5 := keepS S5 h4
      have r5 := r4.same S5
      walk_at "rx"
      refine ⟨a, ns, 3 * i + 1, by rw [show ((3 * i + 1 : Nat) : Int) = 3 * (i : Int) + 1 by omega], h5, hl, by omega, fun H6 b6 S6 nb6 i6 => ?_⟩
      have r6 := r5.same S6
      walk_at "rx"
      refine ⟨bkL b6, p, q2, es, fs, rfl, ⟨b6, rfl⟩, i6, r6, fun H7 w7 => ?_⟩
      have h7 := keepW nb6 S6 w7 h5
      have t7 := r6.ta.wg w7
      walk_at "rx"
      refine ⟨a, ns, 3 * i + 2, by rw [show ((3 * i + 2 : Nat) : Int) = 3 * (i : Int) + 2 by omega], h7, hl, by omega, fun H8 b8 S8 nb8 i8 => ?_⟩
      have t8 := t7.same S8
      walk_at "rx"
      refine ⟨bkL b8, p, es, rfl, ⟨b8, rfl⟩, i8, t8, I, fun H9 p9 fs9 w9 t9 I9 => ?_⟩
      walk_at "rx"
      refine ⟨bkL b8, p9, fs9, rfl, ⟨b8, rfl⟩, w9.i1, t9, I9, fun H10 w10 => ?_⟩
      walk_at "rx"
      exact ⟨_, _, _, _, rfl, keepW nb8 S8 (w9.trans w10) h7⟩
    · rintro σ H1 ⟨y1, y2, y3, y4, rfl, _⟩
      walk_at "rx"
      exact q _
end
theorem all_mk {l : PySem.W.OpenLaw} {w : World} {K : PySem.W.Frag} {h : Heap} {mg : Str → Option Value} {fa : Addr} (X : K.In h) (G : h.Ns mainGlobals mg) (hfa : mg "law" = some (.ref fa))
    {f0 : Addr} {od0 an0 : Option Addr} {sl0 : Array (Option Value)} {oc0 kV0 dc0 pm0 cd0 ct0 : Value}
    (a0 : PySem.W.nsIn K mainGlobals "check_image" = some (some (.ref f0))) (l0 : K.lookup f0 = some ⟨oc0, od0, .func (PySem.W.fnOf "check_image" "check_image" (defArgs scheck_image) (defBody scheck_image) (defScope scheck_image) .none kV0 dc0 pm0 an0 cd0 ct0), sl0⟩) (c0 : PySem.W.codeIn K cd0 "check_image" = true) (k0 : PySem.W.keepIn K (.ref f0) = true)
    {f1 : Addr} {od1 an1 : Option Addr} {sl1 : Array (Option Value)} {oc1 kV1 dc1 pm1 cd1 ct1 : Value}
    (a1 : PySem.W.nsIn K mainGlobals "followed" = some (some (.ref f1))) (l1 : K.lookup f1 = some ⟨oc1, od1, .func (PySem.W.fnOf "followed" "followed" (defArgs sfollowed) (defBody sfollowed) (defScope sfollowed) .none kV1 dc1 pm1 an1 cd1 ct1), sl1⟩) (c1 : PySem.W.codeIn K cd1 "followed" = true) (k1 : PySem.W.keepIn K (.ref f1) = true)
    {f2 : Addr} {od2 an2 : Option Addr} {sl2 : Array (Option Value)} {oc2 kV2 dc2 pm2 cd2 ct2 : Value}
    (a2 : PySem.W.nsIn K mainGlobals "all_rings" = some (some (.ref f2))) (l2 : K.lookup f2 = some ⟨oc2, od2, .func (PySem.W.fnOf "all_rings" "all_rings" (defArgs sall_rings) (defBody sall_rings) (defScope sall_rings) .none kV2 dc2 pm2 an2 cd2 ct2), sl2⟩) (c2 : PySem.W.codeIn K cd2 "all_rings" = true) (k2 : PySem.W.keepIn K (.ref f2) = true)
    {f3 : Addr} {od3 an3 : Option Addr} {sl3 : Array (Option Value)} {oc3 kV3 dc3 pm3 cd3 ct3 : Value}
    (a3 : PySem.W.nsIn K mainGlobals "check_script" = some (some (.ref f3))) (l3 : K.lookup f3 = some ⟨oc3, od3, .func (PySem.W.fnOf "check_script" "check_script" (defArgs scheck_script) (defBody scheck_script) (defScope scheck_script) .none kV3 dc3 pm3 an3 cd3 ct3), sl3⟩) (c3 : PySem.W.codeIn K cd3 "check_script" = true) (k3 : PySem.W.keepIn K (.ref f3) = true)
    {f4 : Addr} {od4 an4 : Option Addr} {sl4 : Array (Option Value)} {oc4 kV4 dc4 pm4 cd4 ct4 : Value}
    (a4 : PySem.W.nsIn K mainGlobals "has_guard_signs" = some (some (.ref f4))) (l4 : K.lookup f4 = some ⟨oc4, od4, .func (PySem.W.fnOf "has_guard_signs" "has_guard_signs" (defArgs shas_guard_signs) (defBody shas_guard_signs) (defScope shas_guard_signs) .none kV4 dc4 pm4 an4 cd4 ct4), sl4⟩) (c4 : PySem.W.codeIn K cd4 "has_guard_signs" = true) (k4 : PySem.W.keepIn K (.ref f4) = true)
    {f5 : Addr} {od5 an5 : Option Addr} {sl5 : Array (Option Value)} {oc5 kV5 dc5 pm5 cd5 ct5 : Value}
    (a5 : PySem.W.nsIn K mainGlobals "_is_line" = some (some (.ref f5))) (l5 : K.lookup f5 = some ⟨oc5, od5, .func (PySem.W.fnOf "_is_line" "_is_line" (defArgs s_is_line) (defBody s_is_line) (defScope s_is_line) .none kV5 dc5 pm5 an5 cd5 ct5), sl5⟩) (c5 : PySem.W.codeIn K cd5 "_is_line" = true) (k5 : PySem.W.keepIn K (.ref f5) = true)
    {f6 : Addr} {od6 an6 : Option Addr} {sl6 : Array (Option Value)} {oc6 kV6 dc6 pm6 cd6 ct6 : Value}
    (a6 : PySem.W.nsIn K mainGlobals "_is_block" = some (some (.ref f6))) (l6 : K.lookup f6 = some ⟨oc6, od6, .func (PySem.W.fnOf "_is_block" "_is_block" (defArgs s_is_block) (defBody s_is_block) (defScope s_is_block) .none kV6 dc6 pm6 an6 cd6 ct6), sl6⟩) (c6 : PySem.W.codeIn K cd6 "_is_block" = true) (k6 : PySem.W.keepIn K (.ref f6) = true)
    {f7 : Addr} {od7 an7 : Option Addr} {sl7 : Array (Option Value)} {oc7 kV7 dc7 pm7 cd7 ct7 : Value}
    (a7 : PySem.W.nsIn K mainGlobals "_is_source" = some (some (.ref f7))) (l7 : K.lookup f7 = some ⟨oc7, od7, .func (PySem.W.fnOf "_is_source" "_is_source" (defArgs s_is_source) (defBody s_is_source) (defScope s_is_source) .none kV7 dc7 pm7 an7 cd7 ct7), sl7⟩) (c7 : PySem.W.codeIn K cd7 "_is_source" = true) (k7 : PySem.W.keepIn K (.ref f7) = true)
    {f8 : Addr} {od8 an8 : Option Addr} {sl8 : Array (Option Value)} {oc8 kV8 dc8 pm8 cd8 ct8 : Value}
    (a8 : PySem.W.nsIn K mainGlobals "_is_guard" = some (some (.ref f8))) (l8 : K.lookup f8 = some ⟨oc8, od8, .func (PySem.W.fnOf "_is_guard" "_is_guard" (defArgs s_is_guard) (defBody s_is_guard) (defScope s_is_guard) .none kV8 dc8 pm8 an8 cd8 ct8), sl8⟩) (c8 : PySem.W.codeIn K cd8 "_is_guard" = true) (k8 : PySem.W.keepIn K (.ref f8) = true)
    {f9 : Addr} {od9 an9 : Option Addr} {sl9 : Array (Option Value)} {oc9 kV9 dc9 pm9 cd9 ct9 : Value}
    (a9 : PySem.W.nsIn K mainGlobals "check_renaming" = some (some (.ref f9))) (l9 : K.lookup f9 = some ⟨oc9, od9, .func (PySem.W.fnOf "check_renaming" "check_renaming" (defArgs scheck_renaming) (defBody scheck_renaming) (defScope scheck_renaming) .none kV9 dc9 pm9 an9 cd9 ct9), sl9⟩) (c9 : PySem.W.codeIn K cd9 "check_renaming" = true) (k9 : PySem.W.keepIn K (.ref f9) = true)
    {f10 : Addr} {od10 an10 : Option Addr} {sl10 : Array (Option Value)} {oc10 kV10 dc10 pm10 cd10 ct10 : Value}
    (a10 : PySem.W.nsIn K mainGlobals "check_careful" = some (some (.ref f10))) (l10 : K.lookup f10 = some ⟨oc10, od10, .func (PySem.W.fnOf "check_careful" "check_careful" (defArgs scheck_careful) (defBody scheck_careful) (defScope scheck_careful) .none kV10 dc10 pm10 an10 cd10 ct10), sl10⟩) (c10 : PySem.W.codeIn K cd10 "check_careful" = true) (k10 : PySem.W.keepIn K (.ref f10) = true)
    {f11 : Addr} {od11 an11 : Option Addr} {sl11 : Array (Option Value)} {oc11 kV11 dc11 pm11 cd11 ct11 : Value}
    (a11 : PySem.W.nsIn K mainGlobals "chains" = some (some (.ref f11))) (l11 : K.lookup f11 = some ⟨oc11, od11, .func (PySem.W.fnOf "chains" "chains" (defArgs schains) (defBody schains) (defScope schains) .none kV11 dc11 pm11 an11 cd11 ct11), sl11⟩) (c11 : PySem.W.codeIn K cd11 "chains" = true) (k11 : PySem.W.keepIn K (.ref f11) = true)
    {f12 : Addr} {od12 an12 : Option Addr} {sl12 : Array (Option Value)} {oc12 kV12 dc12 pm12 cd12 ct12 : Value}
    (a12 : PySem.W.nsIn K mainGlobals "rings" = some (some (.ref f12))) (l12 : K.lookup f12 = some ⟨oc12, od12, .func (PySem.W.fnOf "rings" "rings" (defArgs srings) (defBody srings) (defScope srings) .none kV12 dc12 pm12 an12 cd12 ct12), sl12⟩) (c12 : PySem.W.codeIn K cd12 "rings" = true) (k12 : PySem.W.keepIn K (.ref f12) = true)
    {f13 : Addr} {od13 an13 : Option Addr} {sl13 : Array (Option Value)} {oc13 kV13 dc13 pm13 cd13 ct13 : Value}
    (a13 : PySem.W.nsIn K mainGlobals "moving" = some (some (.ref f13))) (l13 : K.lookup f13 = some ⟨oc13, od13, .func (PySem.W.fnOf "moving" "moving" (defArgs smoving) (defBody smoving) (defScope smoving) .none kV13 dc13 pm13 an13 cd13 ct13), sl13⟩) (c13 : PySem.W.codeIn K cd13 "moving" = true) (k13 : PySem.W.keepIn K (.ref f13) = true)
    {f14 : Addr} {od14 an14 : Option Addr} {sl14 : Array (Option Value)} {oc14 kV14 dc14 pm14 cd14 ct14 : Value}
    (a14 : PySem.W.nsIn K mainGlobals "_is_careful" = some (some (.ref f14))) (l14 : K.lookup f14 = some ⟨oc14, od14, .func (PySem.W.fnOf "_is_careful" "_is_careful" (defArgs s_is_careful) (defBody s_is_careful) (defScope s_is_careful) .none kV14 dc14 pm14 an14 cd14 ct14), sl14⟩) (c14 : PySem.W.codeIn K cd14 "_is_careful" = true) (k14 : PySem.W.keepIn K (.ref f14) = true)
    {f15 : Addr} {od15 an15 : Option Addr} {sl15 : Array (Option Value)} {oc15 kV15 dc15 pm15 cd15 ct15 : Value}
    (a15 : PySem.W.nsIn K mainGlobals "_leads" = some (some (.ref f15))) (l15 : K.lookup f15 = some ⟨oc15, od15, .func (PySem.W.fnOf "_leads" "_leads" (defArgs s_leads) (defBody s_leads) (defScope s_leads) .none kV15 dc15 pm15 an15 cd15 ct15), sl15⟩) (c15 : PySem.W.codeIn K cd15 "_leads" = true) (k15 : PySem.W.keepIn K (.ref f15) = true)
    {f16 : Addr} {od16 an16 : Option Addr} {sl16 : Array (Option Value)} {oc16 kV16 dc16 pm16 cd16 ct16 : Value}
    (a16 : PySem.W.nsIn K mainGlobals "_law_box" = some (some (.ref f16))) (l16 : K.lookup f16 = some ⟨oc16, od16, .func (PySem.W.fnOf "_law_box" "_law_box" (defArgs s_law_box) (defBody s_law_box) (defScope s_law_box) .none kV16 dc16 pm16 an16 cd16 ct16), sl16⟩) (c16 : PySem.W.codeIn K cd16 "_law_box" = true) (k16 : PySem.W.keepIn K (.ref f16) = true)
    {f17 : Addr} {od17 an17 : Option Addr} {sl17 : Array (Option Value)} {oc17 kV17 dc17 pm17 cd17 ct17 : Value}
    (a17 : PySem.W.nsIn K mainGlobals "_law_take" = some (some (.ref f17))) (l17 : K.lookup f17 = some ⟨oc17, od17, .func (PySem.W.fnOf "_law_take" "_law_take" (defArgs s_law_take) (defBody s_law_take) (defScope s_law_take) .none kV17 dc17 pm17 an17 cd17 ct17), sl17⟩) (c17 : PySem.W.codeIn K cd17 "_law_take" = true) (k17 : PySem.W.keepIn K (.ref f17) = true)
    {f18 : Addr} {od18 an18 : Option Addr} {sl18 : Array (Option Value)} {oc18 kV18 dc18 pm18 cd18 ct18 : Value}
    (a18 : PySem.W.nsIn K mainGlobals "_law_values" = some (some (.ref f18))) (l18 : K.lookup f18 = some ⟨oc18, od18, .func (PySem.W.fnOf "_law_values" "_law_values" (defArgs s_law_values) (defBody s_law_values) (defScope s_law_values) .none kV18 dc18 pm18 an18 cd18 ct18), sl18⟩) (c18 : PySem.W.codeIn K cd18 "_law_values" = true) (k18 : PySem.W.keepIn K (.ref f18) = true)
    {f19 : Addr} {od19 an19 : Option Addr} {sl19 : Array (Option Value)} {oc19 kV19 dc19 pm19 cd19 ct19 : Value}
    (a19 : PySem.W.nsIn K mainGlobals "_law_laid" = some (some (.ref f19))) (l19 : K.lookup f19 = some ⟨oc19, od19, .func (PySem.W.fnOf "_law_laid" "_law_laid" (defArgs s_law_laid) (defBody s_law_laid) (defScope s_law_laid) .none kV19 dc19 pm19 an19 cd19 ct19), sl19⟩) (c19 : PySem.W.codeIn K cd19 "_law_laid" = true) (k19 : PySem.W.keepIn K (.ref f19) = true)
    {f20 : Addr} {od20 an20 : Option Addr} {sl20 : Array (Option Value)} {oc20 kV20 dc20 pm20 cd20 ct20 : Value}
    (a20 : PySem.W.nsIn K mainGlobals "_law_before" = some (some (.ref f20))) (l20 : K.lookup f20 = some ⟨oc20, od20, .func (PySem.W.fnOf "_law_before" "_law_before" (defArgs s_law_before) (defBody s_law_before) (defScope s_law_before) .none kV20 dc20 pm20 an20 cd20 ct20), sl20⟩) (c20 : PySem.W.codeIn K cd20 "_law_before" = true) (k20 : PySem.W.keepIn K (.ref f20) = true)
    {f21 : Addr} {od21 an21 : Option Addr} {sl21 : Array (Option Value)} {oc21 kV21 dc21 pm21 cd21 ct21 : Value}
    (a21 : PySem.W.nsIn K mainGlobals "_law_sign" = some (some (.ref f21))) (l21 : K.lookup f21 = some ⟨oc21, od21, .func (PySem.W.fnOf "_law_sign" "_law_sign" (defArgs s_law_sign) (defBody s_law_sign) (defScope s_law_sign) .none kV21 dc21 pm21 an21 cd21 ct21), sl21⟩) (c21 : PySem.W.codeIn K cd21 "_law_sign" = true) (k21 : PySem.W.keepIn K (.ref f21) = true)
    {f22 : Addr} {od22 an22 : Option Addr} {sl22 : Array (Option Value)} {oc22 kV22 dc22 pm22 cd22 ct22 : Value}
    (a22 : PySem.W.nsIn K mainGlobals "_law_partners" = some (some (.ref f22))) (l22 : K.lookup f22 = some ⟨oc22, od22, .func (PySem.W.fnOf "_law_partners" "_law_partners" (defArgs s_law_partners) (defBody s_law_partners) (defScope s_law_partners) .none kV22 dc22 pm22 an22 cd22 ct22), sl22⟩) (c22 : PySem.W.codeIn K cd22 "_law_partners" = true) (k22 : PySem.W.keepIn K (.ref f22) = true)
    {f23 : Addr} {od23 an23 : Option Addr} {sl23 : Array (Option Value)} {oc23 kV23 dc23 pm23 cd23 ct23 : Value}
    (a23 : PySem.W.nsIn K mainGlobals "_law_turned" = some (some (.ref f23))) (l23 : K.lookup f23 = some ⟨oc23, od23, .func (PySem.W.fnOf "_law_turned" "_law_turned" (defArgs s_law_turned) (defBody s_law_turned) (defScope s_law_turned) .none kV23 dc23 pm23 an23 cd23 ct23), sl23⟩) (c23 : PySem.W.codeIn K cd23 "_law_turned" = true) (k23 : PySem.W.keepIn K (.ref f23) = true)
    {f24 : Addr} {od24 an24 : Option Addr} {sl24 : Array (Option Value)} {oc24 kV24 dc24 pm24 cd24 ct24 : Value}
    (a24 : PySem.W.nsIn K mainGlobals "_law_after" = some (some (.ref f24))) (l24 : K.lookup f24 = some ⟨oc24, od24, .func (PySem.W.fnOf "_law_after" "_law_after" (defArgs s_law_after) (defBody s_law_after) (defScope s_law_after) .none kV24 dc24 pm24 an24 cd24 ct24), sl24⟩) (c24 : PySem.W.codeIn K cd24 "_law_after" = true) (k24 : PySem.W.keepIn K (.ref f24) = true)
    {f25 : Addr} {od25 an25 : Option Addr} {sl25 : Array (Option Value)} {oc25 kV25 dc25 pm25 cd25 ct25 : Value}
    (a25 : PySem.W.nsIn K mainGlobals "_law_number" = some (some (.ref f25))) (l25 : K.lookup f25 = some ⟨oc25, od25, .func (PySem.W.fnOf "_law_number" "_law_number" (defArgs s_law_number) (defBody s_law_number) (defScope s_law_number) .none kV25 dc25 pm25 an25 cd25 ct25), sl25⟩) (c25 : PySem.W.codeIn K cd25 "_law_number" = true) (k25 : PySem.W.keepIn K (.ref f25) = true)
    {f26 : Addr} {od26 an26 : Option Addr} {sl26 : Array (Option Value)} {oc26 kV26 dc26 pm26 cd26 ct26 : Value}
    (a26 : PySem.W.nsIn K mainGlobals "_law_fresh" = some (some (.ref f26))) (l26 : K.lookup f26 = some ⟨oc26, od26, .func (PySem.W.fnOf "_law_fresh" "_law_fresh" (defArgs s_law_fresh) (defBody s_law_fresh) (defScope s_law_fresh) .none kV26 dc26 pm26 an26 cd26 ct26), sl26⟩) (c26 : PySem.W.codeIn K cd26 "_law_fresh" = true) (k26 : PySem.W.keepIn K (.ref f26) = true)
    {f27 : Addr} {od27 an27 : Option Addr} {sl27 : Array (Option Value)} {oc27 kV27 dc27 pm27 cd27 ct27 : Value}
    (a27 : PySem.W.nsIn K mainGlobals "_law_with" = some (some (.ref f27))) (l27 : K.lookup f27 = some ⟨oc27, od27, .func (PySem.W.fnOf "_law_with" "_law_with" (defArgs s_law_with) (defBody s_law_with) (defScope s_law_with) .none kV27 dc27 pm27 an27 cd27 ct27), sl27⟩) (c27 : PySem.W.codeIn K cd27 "_law_with" = true) (k27 : PySem.W.keepIn K (.ref f27) = true)
    {f28 : Addr} {od28 an28 : Option Addr} {sl28 : Array (Option Value)} {oc28 kV28 dc28 pm28 cd28 ct28 : Value}
    (a28 : PySem.W.nsIn K mainGlobals "_law_wrong" = some (some (.ref f28))) (l28 : K.lookup f28 = some ⟨oc28, od28, .func (PySem.W.fnOf "_law_wrong" "_law_wrong" (defArgs s_law_wrong) (defBody s_law_wrong) (defScope s_law_wrong) .none kV28 dc28 pm28 an28 cd28 ct28), sl28⟩) (c28 : PySem.W.codeIn K cd28 "_law_wrong" = true) (k28 : PySem.W.keepIn K (.ref f28) = true)
    {f29 : Addr} {od29 an29 : Option Addr} {sl29 : Array (Option Value)} {oc29 kV29 dc29 pm29 cd29 ct29 : Value}
    (a29 : PySem.W.nsIn K mainGlobals "_law_doubled" = some (some (.ref f29))) (l29 : K.lookup f29 = some ⟨oc29, od29, .func (PySem.W.fnOf "_law_doubled" "_law_doubled" (defArgs s_law_doubled) (defBody s_law_doubled) (defScope s_law_doubled) .none kV29 dc29 pm29 an29 cd29 ct29), sl29⟩) (c29 : PySem.W.codeIn K cd29 "_law_doubled" = true) (k29 : PySem.W.keepIn K (.ref f29) = true)
    {f30 : Addr} {od30 an30 : Option Addr} {sl30 : Array (Option Value)} {oc30 kV30 dc30 pm30 cd30 ct30 : Value}
    (a30 : PySem.W.nsIn K mainGlobals "_law_bad_image" = some (some (.ref f30))) (l30 : K.lookup f30 = some ⟨oc30, od30, .func (PySem.W.fnOf "_law_bad_image" "_law_bad_image" (defArgs s_law_bad_image) (defBody s_law_bad_image) (defScope s_law_bad_image) .none kV30 dc30 pm30 an30 cd30 ct30), sl30⟩) (c30 : PySem.W.codeIn K cd30 "_law_bad_image" = true) (k30 : PySem.W.keepIn K (.ref f30) = true)
    {f31 : Addr} {od31 an31 : Option Addr} {sl31 : Array (Option Value)} {oc31 kV31 dc31 pm31 cd31 ct31 : Value}
    (a31 : PySem.W.nsIn K mainGlobals "_law_bad_values" = some (some (.ref f31))) (l31 : K.lookup f31 = some ⟨oc31, od31, .func (PySem.W.fnOf "_law_bad_values" "_law_bad_values" (defArgs s_law_bad_values) (defBody s_law_bad_values) (defScope s_law_bad_values) .none kV31 dc31 pm31 an31 cd31 ct31), sl31⟩) (c31 : PySem.W.codeIn K cd31 "_law_bad_values" = true) (k31 : PySem.W.keepIn K (.ref f31) = true)
    {f32 : Addr} {od32 an32 : Option Addr} {sl32 : Array (Option Value)} {oc32 kV32 dc32 pm32 cd32 ct32 : Value}
    (a32 : PySem.W.nsIn K mainGlobals "_law_bad" = some (some (.ref f32))) (l32 : K.lookup f32 = some ⟨oc32, od32, .func (PySem.W.fnOf "_law_bad" "_law_bad" (defArgs s_law_bad) (defBody s_law_bad) (defScope s_law_bad) .none kV32 dc32 pm32 an32 cd32 ct32), sl32⟩) (c32 : PySem.W.codeIn K cd32 "_law_bad" = true) (k32 : PySem.W.keepIn K (.ref f32) = true)
    {f33 : Addr} {od33 an33 : Option Addr} {sl33 : Array (Option Value)} {oc33 kV33 dc33 pm33 cd33 ct33 : Value}
    (a33 : PySem.W.nsIn K mainGlobals "_law_is_row" = some (some (.ref f33))) (l33 : K.lookup f33 = some ⟨oc33, od33, .func (PySem.W.fnOf "_law_is_row" "_law_is_row" (defArgs s_law_is_row) (defBody s_law_is_row) (defScope s_law_is_row) .none kV33 dc33 pm33 an33 cd33 ct33), sl33⟩) (c33 : PySem.W.codeIn K cd33 "_law_is_row" = true) (k33 : PySem.W.keepIn K (.ref f33) = true)
    {f34 : Addr} {od34 an34 : Option Addr} {sl34 : Array (Option Value)} {oc34 kV34 dc34 pm34 cd34 ct34 : Value}
    (a34 : PySem.W.nsIn K mainGlobals "_law_is_chain" = some (some (.ref f34))) (l34 : K.lookup f34 = some ⟨oc34, od34, .func (PySem.W.fnOf "_law_is_chain" "_law_is_chain" (defArgs s_law_is_chain) (defBody s_law_is_chain) (defScope s_law_is_chain) .none kV34 dc34 pm34 an34 cd34 ct34), sl34⟩) (c34 : PySem.W.codeIn K cd34 "_law_is_chain" = true) (k34 : PySem.W.keepIn K (.ref f34) = true)
    {f35 : Addr} {od35 an35 : Option Addr} {sl35 : Array (Option Value)} {oc35 kV35 dc35 pm35 cd35 ct35 : Value}
    (a35 : PySem.W.nsIn K mainGlobals "_law_is_ring" = some (some (.ref f35))) (l35 : K.lookup f35 = some ⟨oc35, od35, .func (PySem.W.fnOf "_law_is_ring" "_law_is_ring" (defArgs s_law_is_ring) (defBody s_law_is_ring) (defScope s_law_is_ring) .none kV35 dc35 pm35 an35 cd35 ct35), sl35⟩) (c35 : PySem.W.codeIn K cd35 "_law_is_ring" = true) (k35 : PySem.W.keepIn K (.ref f35) = true)
    {f36 : Addr} {od36 an36 : Option Addr} {sl36 : Array (Option Value)} {oc36 kV36 dc36 pm36 cd36 ct36 : Value}
    (a36 : PySem.W.nsIn K mainGlobals "_law_rows_hold" = some (some (.ref f36))) (l36 : K.lookup f36 = some ⟨oc36, od36, .func (PySem.W.fnOf "_law_rows_hold" "_law_rows_hold" (defArgs s_law_rows_hold) (defBody s_law_rows_hold) (defScope s_law_rows_hold) .none kV36 dc36 pm36 an36 cd36 ct36), sl36⟩) (c36 : PySem.W.codeIn K cd36 "_law_rows_hold" = true) (k36 : PySem.W.keepIn K (.ref f36) = true)
    {f37 : Addr} {od37 an37 : Option Addr} {sl37 : Array (Option Value)} {oc37 kV37 dc37 pm37 cd37 ct37 : Value}
    (a37 : PySem.W.nsIn K mainGlobals "_law_pair_holds" = some (some (.ref f37))) (l37 : K.lookup f37 = some ⟨oc37, od37, .func (PySem.W.fnOf "_law_pair_holds" "_law_pair_holds" (defArgs s_law_pair_holds) (defBody s_law_pair_holds) (defScope s_law_pair_holds) .none kV37 dc37 pm37 an37 cd37 ct37), sl37⟩) (c37 : PySem.W.codeIn K cd37 "_law_pair_holds" = true) (k37 : PySem.W.keepIn K (.ref f37) = true)
    {f38 : Addr} {od38 an38 : Option Addr} {sl38 : Array (Option Value)} {oc38 kV38 dc38 pm38 cd38 ct38 : Value}
    (a38 : PySem.W.nsIn K mainGlobals "_law_asked" = some (some (.ref f38))) (l38 : K.lookup f38 = some ⟨oc38, od38, .func (PySem.W.fnOf "_law_asked" "_law_asked" (defArgs s_law_asked) (defBody s_law_asked) (defScope s_law_asked) .none kV38 dc38 pm38 an38 cd38 ct38), sl38⟩) (c38 : PySem.W.codeIn K cd38 "_law_asked" = true) (k38 : PySem.W.keepIn K (.ref f38) = true)
    {f39 : Addr} {od39 an39 : Option Addr} {sl39 : Array (Option Value)} {oc39 kV39 dc39 pm39 cd39 ct39 : Value}
    (a39 : PySem.W.nsIn K mainGlobals "_law_refusals_hold" = some (some (.ref f39))) (l39 : K.lookup f39 = some ⟨oc39, od39, .func (PySem.W.fnOf "_law_refusals_hold" "_law_refusals_hold" (defArgs s_law_refusals_hold) (defBody s_law_refusals_hold) (defScope s_law_refusals_hold) .none kV39 dc39 pm39 an39 cd39 ct39), sl39⟩) (c39 : PySem.W.codeIn K cd39 "_law_refusals_hold" = true) (k39 : PySem.W.keepIn K (.ref f39) = true)
    {f40 : Addr} {od40 an40 : Option Addr} {sl40 : Array (Option Value)} {oc40 kV40 dc40 pm40 cd40 ct40 : Value}
    (a40 : PySem.W.nsIn K mainGlobals "_law_mark" = some (some (.ref f40))) (l40 : K.lookup f40 = some ⟨oc40, od40, .func (PySem.W.fnOf "_law_mark" "_law_mark" (defArgs s_law_mark) (defBody s_law_mark) (defScope s_law_mark) .none kV40 dc40 pm40 an40 cd40 ct40), sl40⟩) (c40 : PySem.W.codeIn K cd40 "_law_mark" = true) (k40 : PySem.W.keepIn K (.ref f40) = true)
    {f41 : Addr} {od41 an41 : Option Addr} {sl41 : Array (Option Value)} {oc41 kV41 dc41 pm41 cd41 ct41 : Value}
    (a41 : PySem.W.nsIn K mainGlobals "_law_careful_line" = some (some (.ref f41))) (l41 : K.lookup f41 = some ⟨oc41, od41, .func (PySem.W.fnOf "_law_careful_line" "_law_careful_line" (defArgs s_law_careful_line) (defBody s_law_careful_line) (defScope s_law_careful_line) .none kV41 dc41 pm41 an41 cd41 ct41), sl41⟩) (c41 : PySem.W.codeIn K cd41 "_law_careful_line" = true) (k41 : PySem.W.keepIn K (.ref f41) = true)
    {f42 : Addr} {od42 an42 : Option Addr} {sl42 : Array (Option Value)} {oc42 kV42 dc42 pm42 cd42 ct42 : Value}
    (a42 : PySem.W.nsIn K mainGlobals "_law_other_line" = some (some (.ref f42))) (l42 : K.lookup f42 = some ⟨oc42, od42, .func (PySem.W.fnOf "_law_other_line" "_law_other_line" (defArgs s_law_other_line) (defBody s_law_other_line) (defScope s_law_other_line) .none kV42 dc42 pm42 an42 cd42 ct42), sl42⟩) (c42 : PySem.W.codeIn K cd42 "_law_other_line" = true) (k42 : PySem.W.keepIn K (.ref f42) = true)
    {f43 : Addr} {od43 an43 : Option Addr} {sl43 : Array (Option Value)} {oc43 kV43 dc43 pm43 cd43 ct43 : Value}
    (a43 : PySem.W.nsIn K mainGlobals "_law_wrong_line" = some (some (.ref f43))) (l43 : K.lookup f43 = some ⟨oc43, od43, .func (PySem.W.fnOf "_law_wrong_line" "_law_wrong_line" (defArgs s_law_wrong_line) (defBody s_law_wrong_line) (defScope s_law_wrong_line) .none kV43 dc43 pm43 an43 cd43 ct43), sl43⟩) (c43 : PySem.W.codeIn K cd43 "_law_wrong_line" = true) (k43 : PySem.W.keepIn K (.ref f43) = true)
    {f44 : Addr} {od44 an44 : Option Addr} {sl44 : Array (Option Value)} {oc44 kV44 dc44 pm44 cd44 ct44 : Value}
    (a44 : PySem.W.nsIn K mainGlobals "_law_careful_asked" = some (some (.ref f44))) (l44 : K.lookup f44 = some ⟨oc44, od44, .func (PySem.W.fnOf "_law_careful_asked" "_law_careful_asked" (defArgs s_law_careful_asked) (defBody s_law_careful_asked) (defScope s_law_careful_asked) .none kV44 dc44 pm44 an44 cd44 ct44), sl44⟩) (c44 : PySem.W.codeIn K cd44 "_law_careful_asked" = true) (k44 : PySem.W.keepIn K (.ref f44) = true)
    {f45 : Addr} {od45 an45 : Option Addr} {sl45 : Array (Option Value)} {oc45 kV45 dc45 pm45 cd45 ct45 : Value}
    (a45 : PySem.W.nsIn K mainGlobals "_law_script_holds" = some (some (.ref f45))) (l45 : K.lookup f45 = some ⟨oc45, od45, .func (PySem.W.fnOf "_law_script_holds" "_law_script_holds" (defArgs s_law_script_holds) (defBody s_law_script_holds) (defScope s_law_script_holds) .none kV45 dc45 pm45 an45 cd45 ct45), sl45⟩) (c45 : PySem.W.codeIn K cd45 "_law_script_holds" = true) (k45 : PySem.W.keepIn K (.ref f45) = true)
    {f46 : Addr} {od46 an46 : Option Addr} {sl46 : Array (Option Value)} {oc46 kV46 dc46 pm46 cd46 ct46 : Value}
    (a46 : PySem.W.nsIn K mainGlobals "_law_some_twice" = some (some (.ref f46))) (l46 : K.lookup f46 = some ⟨oc46, od46, .func (PySem.W.fnOf "_law_some_twice" "_law_some_twice" (defArgs s_law_some_twice) (defBody s_law_some_twice) (defScope s_law_some_twice) .none kV46 dc46 pm46 an46 cd46 ct46), sl46⟩) (c46 : PySem.W.codeIn K cd46 "_law_some_twice" = true) (k46 : PySem.W.keepIn K (.ref f46) = true)
    {f47 : Addr} {od47 an47 : Option Addr} {sl47 : Array (Option Value)} {oc47 kV47 dc47 pm47 cd47 ct47 : Value}
    (a47 : PySem.W.nsIn K mainGlobals "law" = some (some (.ref f47))) (l47 : K.lookup f47 = some ⟨oc47, od47, .func (PySem.W.fnOf "law" "law" (defArgs slaw) (defBody slaw) (defScope slaw) .none kV47 dc47 pm47 an47 cd47 ct47), sl47⟩) (c47 : PySem.W.codeIn K cd47 "law" = true) (k47 : PySem.W.keepIn K (.ref f47) = true)
    (z0 : PySem.W.nsIn K mainGlobals "ValueError" = some none)
    (z1 : PySem.W.nsIn K mainGlobals "abs" = some none)
    (z2 : PySem.W.nsIn K mainGlobals "all" = some none)
    (z3 : PySem.W.nsIn K mainGlobals "bool" = some none)
    (z4 : PySem.W.nsIn K mainGlobals "enumerate" = some none)
    (z5 : PySem.W.nsIn K mainGlobals "int" = some none)
    (z6 : PySem.W.nsIn K mainGlobals "isinstance" = some none)
    (z7 : PySem.W.nsIn K mainGlobals "len" = some none)
    (z8 : PySem.W.nsIn K mainGlobals "list" = some none)
    (z9 : PySem.W.nsIn K mainGlobals "max" = some none)
    (z10 : PySem.W.nsIn K mainGlobals "min" = some none)
    (z11 : PySem.W.nsIn K mainGlobals "range" = some none)
    (z12 : PySem.W.nsIn K mainGlobals "set" = some none)
    (z13 : PySem.W.nsIn K mainGlobals "sorted" = some none)
    (z14 : PySem.W.nsIn K mainGlobals "str" = some none)
    (z15 : PySem.W.nsIn K mainGlobals "sum" = some none)
    (z16 : PySem.W.nsIn K mainGlobals "tuple" = some none)
    (z17 : PySem.W.nsIn K mainGlobals "zip" = some none)
    {t0 : Tok} (y0 : PySem.W.nsIn K mainGlobals "EMPTY" = some (some (.int (-1) t0)))
    {t1 : Tok} (y1 : PySem.W.nsIn K mainGlobals "MOST_LINES" = some (some (.int (60) t1)))
    {t2 : Tok} (y2 : PySem.W.nsIn K mainGlobals "_GREATEST" = some (some (.int (999) t2)))
    {t3 : Tok} (y3 : PySem.W.nsIn K mainGlobals "_GUARD_SIGNS" = some (some (.str ".*-0123456789" t3)))
    {t4 : Tok} (y4 : PySem.W.nsIn K mainGlobals "_MOST_BLOCKS" = some (some (.int (12) t4)))
    {C_InvalidLine : Addr}
    (eC_InvalidLine : PySem.W.nsIn K mainGlobals "InvalidLine" = some (some (.ref C_InvalidLine)))
    (eIc_InvalidLine : PySem.W.isClsIn K C_InvalidLine = true)
    (eTy_InvalidLine : PySem.W.typeIn K (.ref C_InvalidLine) = some (.type "type"))
    (eSb_InvalidLine : PySem.W.subIn K (.ref C_InvalidLine) (.type "BaseException") = some true)
    (eSs_InvalidLine : PySem.W.subIn K (.ref C_InvalidLine) (.ref C_InvalidLine) = some true)
    {C_NotCareful : Addr}
    (eC_NotCareful : PySem.W.nsIn K mainGlobals "NotCareful" = some (some (.ref C_NotCareful)))
    (eIc_NotCareful : PySem.W.isClsIn K C_NotCareful = true)
    (eTy_NotCareful : PySem.W.typeIn K (.ref C_NotCareful) = some (.type "type"))
    (eSb_NotCareful : PySem.W.subIn K (.ref C_NotCareful) (.type "BaseException") = some true)
    (eSs_NotCareful : PySem.W.subIn K (.ref C_NotCareful) (.ref C_NotCareful) = some true)
    {C_InvalidImage : Addr}
    (eC_InvalidImage : PySem.W.nsIn K mainGlobals "InvalidImage" = some (some (.ref C_InvalidImage)))
    (eIc_InvalidImage : PySem.W.isClsIn K C_InvalidImage = true)
    (eTy_InvalidImage : PySem.W.typeIn K (.ref C_InvalidImage) = some (.type "type"))
    (eSb_InvalidImage : PySem.W.subIn K (.ref C_InvalidImage) (.type "BaseException") = some true)
    (eSs_InvalidImage : PySem.W.subIn K (.ref C_InvalidImage) (.ref C_InvalidImage) = some true)
    {C_NotRenaming : Addr}
    (eC_NotRenaming : PySem.W.nsIn K mainGlobals "NotRenaming" = some (some (.ref C_NotRenaming)))
    (eIc_NotRenaming : PySem.W.isClsIn K C_NotRenaming = true)
    (eTy_NotRenaming : PySem.W.typeIn K (.ref C_NotRenaming) = some (.type "type"))
    (eSb_NotRenaming : PySem.W.subIn K (.ref C_NotRenaming) (.type "BaseException") = some true)
    (eSs_NotRenaming : PySem.W.subIn K (.ref C_NotRenaming) (.ref C_NotRenaming) = some true)
    {C_RedoError : Addr}
    (eC_RedoError : PySem.W.nsIn K mainGlobals "RedoError" = some (some (.ref C_RedoError)))
    (eIc_RedoError : PySem.W.isClsIn K C_RedoError = true)
    (eTy_RedoError : PySem.W.typeIn K (.ref C_RedoError) = some (.type "type"))
    (eSb_RedoError : PySem.W.subIn K (.ref C_RedoError) (.type "BaseException") = some true)
    (eSs_RedoError : PySem.W.subIn K (.ref C_RedoError) (.ref C_RedoError) = some true)
    {fI_InvalidLine : Addr} {nm_InvalidLine q_InvalidLine : Str} {NE_InvalidLine : Addr} {bs_InvalidLine : List Value} {sn_InvalidLine : List Str} {sub_InvalidLine : List Value} {ab_InvalidLine : Bool} {col_InvalidLine : Option Bool} {dd_InvalidLine : Option Addr} {m0_InvalidLine m1_InvalidLine m2_InvalidLine m3_InvalidLine m5_InvalidLine : Option Value} {od_InvalidLine an_InvalidLine : Option Addr} {sl_InvalidLine : Array (Option Value)} {oc_InvalidLine kV_InvalidLine dc_InvalidLine pm_InvalidLine cd_InvalidLine ct_InvalidLine : Value}
    (eX_InvalidLine : K.lookup C_InvalidLine = some (excClassObj nm_InvalidLine q_InvalidLine C_InvalidLine NE_InvalidLine bs_InvalidLine [.ref C_RedoError, .type "ValueError", .type "Exception", .type "BaseException", .type "object"] true sn_InvalidLine sub_InvalidLine ab_InvalidLine col_InvalidLine dd_InvalidLine m0_InvalidLine m1_InvalidLine m2_InvalidLine m3_InvalidLine m5_InvalidLine "ValueError.__new__"))
    (eSa_InvalidLine : PySem.W.findIn K (.ref C_InvalidLine) "__setattr__" = some (some (.builtin "object.__setattr__")))
    (eGa_InvalidLine : PySem.W.findIn K (.ref C_InvalidLine) "__getattribute__" = some (some (.builtin "BaseException.__getattribute__")))
    (eGg_InvalidLine : PySem.W.findIn K (.ref C_InvalidLine) "__getattr__" = some none)
    (eNb_InvalidLine : PySem.W.findIn K (.ref C_InvalidLine) "at" = some none)
    (eIn_InvalidLine : PySem.W.findIn K (.ref C_InvalidLine) "__init__" = some (some (.ref fI_InvalidLine)))
    (eTf_InvalidLine : PySem.W.typeIn K (.ref fI_InvalidLine) = some (.type "function"))
    (eLk_InvalidLine : K.lookup fI_InvalidLine = some ⟨oc_InvalidLine, od_InvalidLine, .func (PySem.W.fnOf "__init__" "InvalidLine.__init__" (defArgs sInvalidLineu_initu) (defBody sInvalidLineu_initu) (defScope sInvalidLineu_initu) .none kV_InvalidLine dc_InvalidLine pm_InvalidLine an_InvalidLine cd_InvalidLine ct_InvalidLine), sl_InvalidLine⟩)
    (eCd_InvalidLine : PySem.W.codeIn K cd_InvalidLine "InvalidLine.__init__" = true)
    (eKf_InvalidLine : PySem.W.keepIn K (.ref fI_InvalidLine) = true)
    (eKp_InvalidLine : PySem.W.keepIn K (.ref C_InvalidLine) = true)
    (eHd_InvalidLine : PySem.W.hasDictIn K C_InvalidLine = true)
    (eCc_InvalidLine : PySem.W.findIn K (.ref C_InvalidLine) "__class__" = some (some (.builtin "object.__class__")))
    (eSp_InvalidLine : PySem.W.specialIn K (.builtin "object.__class__") "__get__" = some (some (.builtin "getset_descriptor.__get__")))
    (eTk_InvalidLine : PySem.W.takesIn K (.builtin "object.__class__") = some true)
    (eMo_InvalidLine : PySem.W.mroIn K C_InvalidLine (.type "object") = some true)
    {fI_NotCareful : Addr} {nm_NotCareful q_NotCareful : Str} {NE_NotCareful : Addr} {bs_NotCareful : List Value} {sn_NotCareful : List Str} {sub_NotCareful : List Value} {ab_NotCareful : Bool} {col_NotCareful : Option Bool} {dd_NotCareful : Option Addr} {m0_NotCareful m1_NotCareful m2_NotCareful m3_NotCareful m5_NotCareful : Option Value} {od_NotCareful an_NotCareful : Option Addr} {sl_NotCareful : Array (Option Value)} {oc_NotCareful kV_NotCareful dc_NotCareful pm_NotCareful cd_NotCareful ct_NotCareful : Value}
    (eX_NotCareful : K.lookup C_NotCareful = some (excClassObj nm_NotCareful q_NotCareful C_NotCareful NE_NotCareful bs_NotCareful [.ref C_RedoError, .type "ValueError", .type "Exception", .type "BaseException", .type "object"] true sn_NotCareful sub_NotCareful ab_NotCareful col_NotCareful dd_NotCareful m0_NotCareful m1_NotCareful m2_NotCareful m3_NotCareful m5_NotCareful "ValueError.__new__"))
    (eSa_NotCareful : PySem.W.findIn K (.ref C_NotCareful) "__setattr__" = some (some (.builtin "object.__setattr__")))
    (eGa_NotCareful : PySem.W.findIn K (.ref C_NotCareful) "__getattribute__" = some (some (.builtin "BaseException.__getattribute__")))
    (eGg_NotCareful : PySem.W.findIn K (.ref C_NotCareful) "__getattr__" = some none)
    (eNb_NotCareful : PySem.W.findIn K (.ref C_NotCareful) "at" = some none)
    (eIn_NotCareful : PySem.W.findIn K (.ref C_NotCareful) "__init__" = some (some (.ref fI_NotCareful)))
    (eTf_NotCareful : PySem.W.typeIn K (.ref fI_NotCareful) = some (.type "function"))
    (eLk_NotCareful : K.lookup fI_NotCareful = some ⟨oc_NotCareful, od_NotCareful, .func (PySem.W.fnOf "__init__" "NotCareful.__init__" (defArgs sNotCarefulu_initu) (defBody sNotCarefulu_initu) (defScope sNotCarefulu_initu) .none kV_NotCareful dc_NotCareful pm_NotCareful an_NotCareful cd_NotCareful ct_NotCareful), sl_NotCareful⟩)
    (eCd_NotCareful : PySem.W.codeIn K cd_NotCareful "NotCareful.__init__" = true)
    (eKf_NotCareful : PySem.W.keepIn K (.ref fI_NotCareful) = true)
    (eKp_NotCareful : PySem.W.keepIn K (.ref C_NotCareful) = true)
    (eHd_NotCareful : PySem.W.hasDictIn K C_NotCareful = true)
    (eCc_NotCareful : PySem.W.findIn K (.ref C_NotCareful) "__class__" = some (some (.builtin "object.__class__")))
    (eSp_NotCareful : PySem.W.specialIn K (.builtin "object.__class__") "__get__" = some (some (.builtin "getset_descriptor.__get__")))
    (eTk_NotCareful : PySem.W.takesIn K (.builtin "object.__class__") = some true)
    (eMo_NotCareful : PySem.W.mroIn K C_NotCareful (.type "object") = some true)
    {fI_InvalidImage : Addr} {nm_InvalidImage q_InvalidImage : Str} {NE_InvalidImage : Addr} {bs_InvalidImage : List Value} {sn_InvalidImage : List Str} {sub_InvalidImage : List Value} {ab_InvalidImage : Bool} {col_InvalidImage : Option Bool} {dd_InvalidImage : Option Addr} {m0_InvalidImage m1_InvalidImage m2_InvalidImage m3_InvalidImage m5_InvalidImage : Option Value} {od_InvalidImage an_InvalidImage : Option Addr} {sl_InvalidImage : Array (Option Value)} {oc_InvalidImage kV_InvalidImage dc_InvalidImage pm_InvalidImage cd_InvalidImage ct_InvalidImage : Value}
    (eX_InvalidImage : K.lookup C_InvalidImage = some (excClassObj nm_InvalidImage q_InvalidImage C_InvalidImage NE_InvalidImage bs_InvalidImage [.ref C_RedoError, .type "ValueError", .type "Exception", .type "BaseException", .type "object"] true sn_InvalidImage sub_InvalidImage ab_InvalidImage col_InvalidImage dd_InvalidImage m0_InvalidImage m1_InvalidImage m2_InvalidImage m3_InvalidImage m5_InvalidImage "ValueError.__new__"))
    (eSa_InvalidImage : PySem.W.findIn K (.ref C_InvalidImage) "__setattr__" = some (some (.builtin "object.__setattr__")))
    (eGa_InvalidImage : PySem.W.findIn K (.ref C_InvalidImage) "__getattribute__" = some (some (.builtin "BaseException.__getattribute__")))
    (eGg_InvalidImage : PySem.W.findIn K (.ref C_InvalidImage) "__getattr__" = some none)
    (eNb_InvalidImage : PySem.W.findIn K (.ref C_InvalidImage) "block" = some none)
    (eIn_InvalidImage : PySem.W.findIn K (.ref C_InvalidImage) "__init__" = some (some (.ref fI_InvalidImage)))
    (eTf_InvalidImage : PySem.W.typeIn K (.ref fI_InvalidImage) = some (.type "function"))
    (eLk_InvalidImage : K.lookup fI_InvalidImage = some ⟨oc_InvalidImage, od_InvalidImage, .func (PySem.W.fnOf "__init__" "InvalidImage.__init__" (defArgs sInvalidImageu_initu) (defBody sInvalidImageu_initu) (defScope sInvalidImageu_initu) .none kV_InvalidImage dc_InvalidImage pm_InvalidImage an_InvalidImage cd_InvalidImage ct_InvalidImage), sl_InvalidImage⟩)
    (eCd_InvalidImage : PySem.W.codeIn K cd_InvalidImage "InvalidImage.__init__" = true)
    (eKf_InvalidImage : PySem.W.keepIn K (.ref fI_InvalidImage) = true)
    (eKp_InvalidImage : PySem.W.keepIn K (.ref C_InvalidImage) = true)
    (eHd_InvalidImage : PySem.W.hasDictIn K C_InvalidImage = true)
    (eCc_InvalidImage : PySem.W.findIn K (.ref C_InvalidImage) "__class__" = some (some (.builtin "object.__class__")))
    (eSp_InvalidImage : PySem.W.specialIn K (.builtin "object.__class__") "__get__" = some (some (.builtin "getset_descriptor.__get__")))
    (eTk_InvalidImage : PySem.W.takesIn K (.builtin "object.__class__") = some true)
    (eMo_InvalidImage : PySem.W.mroIn K C_InvalidImage (.type "object") = some true)
    (eQx_NotRenaming : PySem.W.excIn K C_NotRenaming vBase "ValueError.__new__" = true)
    (eKp_NotRenaming : PySem.W.keepIn K (.ref C_NotRenaming) = true)
    (eGa_NotRenaming : PySem.W.findIn K (.ref C_NotRenaming) "__getattribute__" = some (some (.builtin "BaseException.__getattribute__")))
    (eGg_NotRenaming : PySem.W.findIn K (.ref C_NotRenaming) "__getattr__" = some none)
    (eHd_NotRenaming : PySem.W.hasDictIn K C_NotRenaming = true)
    (eCc_NotRenaming : PySem.W.findIn K (.ref C_NotRenaming) "__class__" = some (some (.builtin "object.__class__")))
    (eSp_NotRenaming : PySem.W.specialIn K (.builtin "object.__class__") "__get__" = some (some (.builtin "getset_descriptor.__get__")))
    (eTk_NotRenaming : PySem.W.takesIn K (.builtin "object.__class__") = some true)
    (eMo_NotRenaming : PySem.W.mroIn K C_NotRenaming (.type "object") = some true)
    (eS_NotRenaming_InvalidImage : PySem.W.subIn K (.ref C_NotRenaming) (.ref C_InvalidImage) = some false)
    (eS_InvalidLine_InvalidImage : PySem.W.subIn K (.ref C_InvalidLine) (.ref C_InvalidImage) = some false)
    (eS_NotCareful_InvalidImage : PySem.W.subIn K (.ref C_NotCareful) (.ref C_InvalidImage) = some false)
    (eS_NotCareful_InvalidLine : PySem.W.subIn K (.ref C_NotCareful) (.ref C_InvalidLine) = some false)
    (eS_InvalidImage_RedoError : PySem.W.subIn K (.ref C_InvalidImage) (.ref C_RedoError) = some true)
    (eS_InvalidImage_NotRenaming : PySem.W.subIn K (.ref C_InvalidImage) (.ref C_NotRenaming) = some false)
    (eS_NotRenaming_RedoError : PySem.W.subIn K (.ref C_NotRenaming) (.ref C_RedoError) = some true)
    (eS_NotRenaming_ValueError : PySem.W.subIn K (.ref C_NotRenaming) (.type "ValueError") = some true)
    (eS_NotCareful_RedoError : PySem.W.subIn K (.ref C_NotCareful) (.ref C_RedoError) = some true)
    : ∃ fd : FuncData, (∀ (s : Shared) (v : Value), BindsTo s fd ⟨[v], []⟩ [("script", v)]) ∧ ∀ base : Heap, K.In base → base.Ns mainGlobals mg → FnOk l.prog w K mg base CX0 9 fa fd ["script"] (splaw K) := by
  have e := hfa.symm.trans (PySem.W.mg_of X G a47)
  cases e
  have T : Top K mg := ⟨def_mk X G a0 l0 c0 k0 (fun _ _ _ _ _ _ us hl => match us, hl with | [_], _ => rfl),
    def_mk X G a1 l1 c1 k1 (fun _ _ _ _ _ _ us hl => match us, hl with | [_, _], _ => rfl),
    def_mk X G a2 l2 c2 k2 (fun _ _ _ _ _ _ us hl => match us, hl with | [_], _ => rfl),
    def_mk X G a3 l3 c3 k3 (fun _ _ _ _ _ _ us hl => match us, hl with | [_, _], _ => rfl),
    def_mk X G a4 l4 c4 k4 (fun _ _ _ _ _ _ us hl => match us, hl with | [_], _ => rfl),
    def_mk X G a5 l5 c5 k5 (fun _ _ _ _ _ _ us hl => match us, hl with | [_, _], _ => rfl),
    def_mk X G a6 l6 c6 k6 (fun _ _ _ _ _ _ us hl => match us, hl with | [_, _], _ => rfl),
    def_mk X G a7 l7 c7 k7 (fun _ _ _ _ _ _ us hl => match us, hl with | [_, _, _, _], _ => rfl),
    def_mk X G a8 l8 c8 k8 (fun _ _ _ _ _ _ us hl => match us, hl with | [_, _], _ => rfl),
    def_mk X G a9 l9 c9 k9 (fun _ _ _ _ _ _ us hl => match us, hl with | [_, _], _ => rfl),
    def_mk X G a10 l10 c10 k10 (fun _ _ _ _ _ _ us hl => match us, hl with | [_, _], _ => rfl),
    def_mk X G a11 l11 c11 k11 (fun _ _ _ _ _ _ us hl => match us, hl with | [_, _], _ => rfl),
    def_mk X G a12 l12 c12 k12 (fun _ _ _ _ _ _ us hl => match us, hl with | [_, _], _ => rfl),
    def_mk X G a13 l13 c13 k13 (fun _ _ _ _ _ _ us hl => match us, hl with | [_, _], _ => rfl),
    def_mk X G a14 l14 c14 k14 (fun _ _ _ _ _ _ us hl => match us, hl with | [_], _ => rfl),
    def_mk X G a15 l15 c15 k15 (fun _ _ _ _ _ _ us hl => match us, hl with | [_, _], _ => rfl),
    def_mk X G a16 l16 c16 k16 (fun _ _ _ _ _ _ us hl => match us, hl with | [_, _], _ => rfl),
    def_mk X G a17 l17 c17 k17 (fun _ _ _ _ _ _ us hl => match us, hl with | [_, _], _ => rfl),
    def_mk X G a18 l18 c18 k18 (fun _ _ _ _ _ _ us hl => match us, hl with | [_, _], _ => rfl),
    def_mk X G a19 l19 c19 k19 (fun _ _ _ _ _ _ us hl => match us, hl with | [_, _, _], _ => rfl),
    def_mk X G a20 l20 c20 k20 (fun _ _ _ _ _ _ us hl => match us, hl with | [_], _ => rfl),
    def_mk X G a21 l21 c21 k21 (fun _ _ _ _ _ _ us hl => match us, hl with | [_], _ => rfl),
    def_mk X G a22 l22 c22 k22 (fun _ _ _ _ _ _ us hl => match us, hl with | [_, _, _], _ => rfl),
    def_mk X G a23 l23 c23 k23 (fun _ _ _ _ _ _ us hl => match us, hl with | [_, _], _ => rfl),
    def_mk X G a24 l24 c24 k24 (fun _ _ _ _ _ _ us hl => match us, hl with | [_, _], _ => rfl),
    def_mk X G a25 l25 c25 k25 (fun _ _ _ _ _ _ us hl => match us, hl with | [_], _ => rfl),
    def_mk X G a26 l26 c26 k26 (fun _ _ _ _ _ _ us hl => match us, hl with | [_, _], _ => rfl),
    def_mk X G a27 l27 c27 k27 (fun _ _ _ _ _ _ us hl => match us, hl with | [_, _, _], _ => rfl),
    def_mk X G a28 l28 c28 k28 (fun _ _ _ _ _ _ us hl => match us, hl with | [_], _ => rfl),
    def_mk X G a29 l29 c29 k29 (fun _ _ _ _ _ _ us hl => match us, hl with | [_, _, _], _ => rfl),
    def_mk X G a30 l30 c30 k30 (fun _ _ _ _ _ _ us hl => match us, hl with | [_, _, _, _], _ => rfl),
    def_mk X G a31 l31 c31 k31 (fun _ _ _ _ _ _ us hl => match us, hl with | [_, _, _, _], _ => rfl),
    def_mk X G a32 l32 c32 k32 (fun _ _ _ _ _ _ us hl => match us, hl with | [_, _, _], _ => rfl),
    def_mk X G a33 l33 c33 k33 (fun _ _ _ _ _ _ us hl => match us, hl with | [_, _], _ => rfl),
    def_mk X G a34 l34 c34 k34 (fun _ _ _ _ _ _ us hl => match us, hl with | [_, _, _], _ => rfl),
    def_mk X G a35 l35 c35 k35 (fun _ _ _ _ _ _ us hl => match us, hl with | [_, _, _], _ => rfl),
    def_mk X G a36 l36 c36 k36 (fun _ _ _ _ _ _ us hl => match us, hl with | [_, _, _, _], _ => rfl),
    def_mk X G a37 l37 c37 k37 (fun _ _ _ _ _ _ us hl => match us, hl with | [_, _], _ => rfl),
    def_mk X G a38 l38 c38 k38 (fun _ _ _ _ _ _ us hl => match us, hl with | [_, _, _], _ => rfl),
    def_mk X G a39 l39 c39 k39 (fun _ _ _ _ _ _ us hl => match us, hl with | [_, _, _], _ => rfl),
    def_mk X G a40 l40 c40 k40 (fun _ _ _ _ _ _ us hl => match us, hl with | [_, _], _ => rfl),
    def_mk X G a41 l41 c41 k41 (fun _ _ _ _ _ _ us hl => match us, hl with | [_, _], _ => rfl),
    def_mk X G a42 l42 c42 k42 (fun _ _ _ _ _ _ us hl => match us, hl with | [_, _], _ => rfl),
    def_mk X G a43 l43 c43 k43 (fun _ _ _ _ _ _ us hl => match us, hl with | [_, _], _ => rfl),
    def_mk X G a44 l44 c44 k44 (fun _ _ _ _ _ _ us hl => match us, hl with | [_, _], _ => rfl),
    def_mk X G a45 l45 c45 k45 (fun _ _ _ _ _ _ us hl => match us, hl with | [_, _], _ => rfl),
    def_mk X G a46 l46 c46 k46 (fun _ _ _ _ _ _ us hl => match us, hl with | [_, _], _ => rfl),
    def_mk X G a47 l47 c47 k47 (fun _ _ _ _ _ _ us hl => match us, hl with | [_], _ => rfl),
    PySem.W.mg_none_of X G z0,
    PySem.W.mg_none_of X G z1,
    PySem.W.mg_none_of X G z2,
    PySem.W.mg_none_of X G z3,
    PySem.W.mg_none_of X G z4,
    PySem.W.mg_none_of X G z5,
    PySem.W.mg_none_of X G z6,
    PySem.W.mg_none_of X G z7,
    PySem.W.mg_none_of X G z8,
    PySem.W.mg_none_of X G z9,
    PySem.W.mg_none_of X G z10,
    PySem.W.mg_none_of X G z11,
    PySem.W.mg_none_of X G z12,
    PySem.W.mg_none_of X G z13,
    PySem.W.mg_none_of X G z14,
    PySem.W.mg_none_of X G z15,
    PySem.W.mg_none_of X G z16,
    PySem.W.mg_none_of X G z17,
    const_mk X G y0 ⟨_, rfl⟩,
    const_mk X G y1 ⟨_, rfl⟩,
    const_mk X G y2 ⟨_, rfl⟩,
    const_mk X G y3 ⟨_, rfl⟩,
    const_mk X G y4 ⟨_, rfl⟩,
    (by
      rw [atTop_of eC_InvalidLine]
      have F := fun_mk (st := sInvalidLineu_initu) eLk_InvalidLine eCd_InvalidLine eKf_InvalidLine
      exact ⟨fI_InvalidLine, _, ⟨PySem.W.mg_of X G eC_InvalidLine, ⟨⟨_, _, _, _, _, _, _, _, _, _, _, _, _, _, _, eX_InvalidLine, by rfl⟩, eSa_InvalidLine, eSb_InvalidLine, eTy_InvalidLine, eKp_InvalidLine⟩, ⟨eGa_InvalidLine, eGg_InvalidLine, eSb_InvalidLine, eHd_InvalidLine⟩, ⟨eGa_InvalidLine, eGg_InvalidLine, eSb_InvalidLine, eHd_InvalidLine, eCc_InvalidLine, eSp_InvalidLine, eTk_InvalidLine, eMo_InvalidLine⟩, eIc_InvalidLine, eNb_InvalidLine, eIn_InvalidLine, eTf_InvalidLine⟩, F, F.binds (ps := ["self", "at"]) fun _ _ _ _ _ _ us hl => match us, hl with | [_, _], _ => rfl⟩),
    (by
      rw [atTop_of eC_NotCareful]
      have F := fun_mk (st := sNotCarefulu_initu) eLk_NotCareful eCd_NotCareful eKf_NotCareful
      exact ⟨fI_NotCareful, _, ⟨PySem.W.mg_of X G eC_NotCareful, ⟨⟨_, _, _, _, _, _, _, _, _, _, _, _, _, _, _, eX_NotCareful, by rfl⟩, eSa_NotCareful, eSb_NotCareful, eTy_NotCareful, eKp_NotCareful⟩, ⟨eGa_NotCareful, eGg_NotCareful, eSb_NotCareful, eHd_NotCareful⟩, ⟨eGa_NotCareful, eGg_NotCareful, eSb_NotCareful, eHd_NotCareful, eCc_NotCareful, eSp_NotCareful, eTk_NotCareful, eMo_NotCareful⟩, eIc_NotCareful, eNb_NotCareful, eIn_NotCareful, eTf_NotCareful⟩, F, F.binds (ps := ["self", "at"]) fun _ _ _ _ _ _ us hl => match us, hl with | [_, _], _ => rfl⟩),
    (by
      rw [atTop_of eC_InvalidImage]
      have F := fun_mk (st := sInvalidImageu_initu) eLk_InvalidImage eCd_InvalidImage eKf_InvalidImage
      exact ⟨fI_InvalidImage, _, ⟨PySem.W.mg_of X G eC_InvalidImage, ⟨⟨_, _, _, _, _, _, _, _, _, _, _, _, _, _, _, eX_InvalidImage, by rfl⟩, eSa_InvalidImage, eSb_InvalidImage, eTy_InvalidImage, eKp_InvalidImage⟩, ⟨eGa_InvalidImage, eGg_InvalidImage, eSb_InvalidImage, eHd_InvalidImage⟩, ⟨eGa_InvalidImage, eGg_InvalidImage, eSb_InvalidImage, eHd_InvalidImage, eCc_InvalidImage, eSp_InvalidImage, eTk_InvalidImage, eMo_InvalidImage⟩, eIc_InvalidImage, eNb_InvalidImage, eIn_InvalidImage, eTf_InvalidImage⟩, F, F.binds (ps := ["self", "block"]) fun _ _ _ _ _ _ us hl => match us, hl with | [_, _], _ => rfl⟩),
    ⟨_, PySem.W.mg_of X G eC_InvalidImage, (by rw [atTop_of eC_InvalidImage]; rfl)⟩,
    ⟨_, PySem.W.mg_of X G eC_InvalidLine, (by rw [atTop_of eC_InvalidLine]; rfl)⟩,
    ⟨_, PySem.W.mg_of X G eC_NotCareful, (by rw [atTop_of eC_NotCareful]; rfl)⟩,
    ⟨_, PySem.W.mg_of X G eC_NotRenaming, (by rw [atTop_of eC_NotRenaming]; rfl)⟩,
    ⟨_, PySem.W.mg_of X G eC_RedoError, (by rw [atTop_of eC_RedoError]; rfl)⟩,
    (by rw [atTop_of eC_NotRenaming]; exact ⟨PySem.W.mg_of X G eC_NotRenaming, eQx_NotRenaming, eKp_NotRenaming, eSb_NotRenaming, eTy_NotRenaming, ⟨eGa_NotRenaming, eGg_NotRenaming, eSb_NotRenaming, eHd_NotRenaming, eCc_NotRenaming, eSp_NotRenaming, eTk_NotRenaming, eMo_NotRenaming⟩, eIc_NotRenaming⟩),
    (by rw [atTop_of eC_InvalidImage]; exact exm_of eSb_InvalidImage eIc_InvalidImage eTy_InvalidImage eSs_InvalidImage),
    (by rw [atTop_of eC_NotRenaming, atTop_of eC_InvalidImage]; exact exm_of eSb_InvalidImage eIc_InvalidImage eTy_InvalidImage eS_NotRenaming_InvalidImage),
    (by rw [atTop_of eC_NotRenaming]; exact exm_of eSb_NotRenaming eIc_NotRenaming eTy_NotRenaming eSs_NotRenaming),
    (by rw [atTop_of eC_InvalidLine, atTop_of eC_InvalidImage]; exact exm_of eSb_InvalidImage eIc_InvalidImage eTy_InvalidImage eS_InvalidLine_InvalidImage),
    (by rw [atTop_of eC_InvalidLine]; exact exm_of eSb_InvalidLine eIc_InvalidLine eTy_InvalidLine eSs_InvalidLine),
    (by rw [atTop_of eC_NotCareful, atTop_of eC_InvalidImage]; exact exm_of eSb_InvalidImage eIc_InvalidImage eTy_InvalidImage eS_NotCareful_InvalidImage),
    (by rw [atTop_of eC_NotCareful, atTop_of eC_InvalidLine]; exact exm_of eSb_InvalidLine eIc_InvalidLine eTy_InvalidLine eS_NotCareful_InvalidLine),
    (by rw [atTop_of eC_NotCareful]; exact exm_of eSb_NotCareful eIc_NotCareful eTy_NotCareful eSs_NotCareful),
    (by rw [atTop_of eC_InvalidImage, atTop_of eC_RedoError]; exact kit_refT eIc_RedoError eTy_RedoError eS_InvalidImage_RedoError),
    (by rw [atTop_of eC_InvalidImage, atTop_of eC_NotRenaming]; exact kit_refF eIc_NotRenaming eTy_NotRenaming eS_InvalidImage_NotRenaming eSs_InvalidImage),
    (by rw [atTop_of eC_NotRenaming, atTop_of eC_RedoError]; exact kit_refT eIc_RedoError eTy_RedoError eS_NotRenaming_RedoError),
    (by rw [atTop_of eC_NotRenaming]; exact kit_refV eS_NotRenaming_ValueError),
    (by rw [atTop_of eC_NotCareful, atTop_of eC_RedoError]; exact kit_refT eIc_RedoError eTy_RedoError eS_NotCareful_RedoError),
    (by rw [atTop_of eC_NotCareful, atTop_of eC_InvalidLine]; exact kit_refF eIc_InvalidLine eTy_InvalidLine eS_NotCareful_InvalidLine eSs_NotCareful)⟩
  have F := fun_mk (st := slaw) l47 c47 k47
  exact ⟨_, fun s v => .of_eq rfl, fun base _ _ => oklaw T ⟨F, F.binds (ps := ["script"]) fun _ _ _ _ _ _ us hl => match us, hl with | [_], _ => rfl, PySem.W.mg_of X G a47⟩⟩
end K38
open PySem PySem.W PyProof.Rows in
set_option maxRecDepth 100000 in
set_option maxHeartbeats 0 in
theorem PySem.Challenge.cw_redolots_k38_chains_and_rings_holds : PySem.Challenge.rw_redolots_k38_chains_and_rings.Holds := by
  w_on; o_law; k_head; (case hw => w_witness2)
  k_fill
  refine L2.walk_ofK (l := PySem.Challenge.rw_redolots_k38_chains_and_rings) (n := 63) (k := 9) (x := "script") (CX := L2.CX0) (sp := K38.splaw) rfl (by decide) rfl ⟨rfl, by decide, by decide⟩ (fun w h Y => PySem.W.kIn_of Y) ?F (fun K H a ns hl _ hS => ⟨a, ns, rfl, hS, hl, fun _ => rfl⟩) (fun _ _ _ _ z => z)
  case F =>
    intro w mg fa h KX G hmg
    refine' K38.all_mk KX G hmg ?a0 ?l0 ?c0 ?k0 ?a1 ?l1 ?c1 ?k1 ?a2 ?l2 ?c2 ?k2 ?a3 ?l3 ?c3 ?k3 ?a4 ?l4 ?c4 ?k4 ?a5 ?l5 ?c5 ?k5 ?a6 ?l6 ?c6 ?k6 ?a7 ?l7 ?c7 ?k7 ?a8 ?l8 ?c8 ?k8 ?a9 ?l9 ?c9 ?k9 ?a10 ?l10 ?c10 ?k10 ?a11 ?l11 ?c11 ?k11 ?a12 ?l12 ?c12 ?k12 ?a13 ?l13 ?c13 ?k13 ?a14 ?l14 ?c14 ?k14 ?a15 ?l15 ?c15 ?k15 ?a16 ?l16 ?c16 ?k16 ?a17 ?l17 ?c17 ?k17 ?a18 ?l18 ?c18 ?k18 ?a19 ?l19 ?c19 ?k19 ?a20 ?l20 ?c20 ?k20 ?a21 ?l21 ?c21 ?k21 ?a22 ?l22 ?c22 ?k22 ?a23 ?l23 ?c23 ?k23 ?a24 ?l24 ?c24 ?k24 ?a25 ?l25 ?c25 ?k25 ?a26 ?l26 ?c26 ?k26 ?a27 ?l27 ?c27 ?k27 ?a28 ?l28 ?c28 ?k28 ?a29 ?l29 ?c29 ?k29 ?a30 ?l30 ?c30 ?k30 ?a31 ?l31 ?c31 ?k31 ?a32 ?l32 ?c32 ?k32 ?a33 ?l33 ?c33 ?k33 ?a34 ?l34 ?c34 ?k34 ?a35 ?l35 ?c35 ?k35 ?a36 ?l36 ?c36 ?k36 ?a37 ?l37 ?c37 ?k37 ?a38 ?l38 ?c38 ?k38 ?a39 ?l39 ?c39 ?k39 ?a40 ?l40 ?c40 ?k40 ?a41 ?l41 ?c41 ?k41 ?a42 ?l42 ?c42 ?k42 ?a43 ?l43 ?c43 ?k43 ?a44 ?l44 ?c44 ?k44 ?a45 ?l45 ?c45 ?k45 ?a46 ?l46 ?c46 ?k46 ?a47 ?l47 ?c47 ?k47 ?z0 ?z1 ?z2 ?z3 ?z4 ?z5 ?z6 ?z7 ?z8 ?z9 ?z10 ?z11 ?z12 ?z13 ?z14 ?z15 ?z16 ?z17 ?y0 ?y1 ?y2 ?y3 ?y4 ?eC_InvalidLine ?eIc_InvalidLine ?eTy_InvalidLine ?eSb_InvalidLine ?eSs_InvalidLine ?eC_NotCareful ?eIc_NotCareful ?eTy_NotCareful ?eSb_NotCareful ?eSs_NotCareful ?eC_InvalidImage ?eIc_InvalidImage ?eTy_InvalidImage ?eSb_InvalidImage ?eSs_InvalidImage ?eC_NotRenaming ?eIc_NotRenaming ?eTy_NotRenaming ?eSb_NotRenaming ?eSs_NotRenaming ?eC_RedoError ?eIc_RedoError ?eTy_RedoError ?eSb_RedoError ?eSs_RedoError ?eX_InvalidLine ?eSa_InvalidLine ?eGa_InvalidLine ?eGg_InvalidLine ?eNb_InvalidLine ?eIn_InvalidLine ?eTf_InvalidLine ?eLk_InvalidLine ?eCd_InvalidLine ?eKf_InvalidLine ?eKp_InvalidLine ?eHd_InvalidLine ?eCc_InvalidLine ?eSp_InvalidLine ?eTk_InvalidLine ?eMo_InvalidLine ?eX_NotCareful ?eSa_NotCareful ?eGa_NotCareful ?eGg_NotCareful ?eNb_NotCareful ?eIn_NotCareful ?eTf_NotCareful ?eLk_NotCareful ?eCd_NotCareful ?eKf_NotCareful ?eKp_NotCareful ?eHd_NotCareful ?eCc_NotCareful ?eSp_NotCareful ?eTk_NotCareful ?eMo_NotCareful ?eX_InvalidImage ?eSa_InvalidImage ?eGa_InvalidImage ?eGg_InvalidImage ?eNb_InvalidImage ?eIn_InvalidImage ?eTf_InvalidImage ?eLk_InvalidImage ?eCd_InvalidImage ?eKf_InvalidImage ?eKp_InvalidImage ?eHd_InvalidImage ?eCc_InvalidImage ?eSp_InvalidImage ?eTk_InvalidImage ?eMo_InvalidImage ?eQx_NotRenaming ?eKp_NotRenaming ?eGa_NotRenaming ?eGg_NotRenaming ?eHd_NotRenaming ?eCc_NotRenaming ?eSp_NotRenaming ?eTk_NotRenaming ?eMo_NotRenaming ?eS_NotRenaming_InvalidImage ?eS_InvalidLine_InvalidImage ?eS_NotCareful_InvalidImage ?eS_NotCareful_InvalidLine ?eS_InvalidImage_RedoError ?eS_InvalidImage_NotRenaming ?eS_NotRenaming_RedoError ?eS_NotRenaming_ValueError ?eS_NotCareful_RedoError
    (case a0 => k_is)
    (case l0 => k_is)
    (case c0 => k_is)
    (case k0 => k_is)
    (case a1 => k_is)
    (case l1 => k_is)
    (case c1 => k_is)
    (case k1 => k_is)
    (case a2 => k_is)
    (case l2 => k_is)
    (case c2 => k_is)
    (case k2 => k_is)
    (case a3 => k_is)
    (case l3 => k_is)
    (case c3 => k_is)
    (case k3 => k_is)
    (case a4 => k_is)
    (case l4 => k_is)
    (case c4 => k_is)
    (case k4 => k_is)
    (case a5 => k_is)
    (case l5 => k_is)
    (case c5 => k_is)
    (case k5 => k_is)
    (case a6 => k_is)
    (case l6 => k_is)
    (case c6 => k_is)
    (case k6 => k_is)
    (case a7 => k_is)
    (case l7 => k_is)
    (case c7 => k_is)
    (case k7 => k_is)
    (case a8 => k_is)
    (case l8 => k_is)
    (case c8 => k_is)
    (case k8 => k_is)
    (case a9 => k_is)
    (case l9 => k_is)
    (case c9 => k_is)
    (case k9 => k_is)
    (case a10 => k_is)
    (case l10 => k_is)
    (case c10 => k_is)
    (case k10 => k_is)
    (case a11 => k_is)
    (case l11 => k_is)
    (case c11 => k_is)
    (case k11 => k_is)
    (case a12 => k_is)
    (case l12 => k_is)
    (case c12 => k_is)
    (case k12 => k_is)
    (case a13 => k_is)
    (case l13 => k_is)
    (case c13 => k_is)
    (case k13 => k_is)
    (case a14 => k_is)
    (case l14 => k_is)
    (case c14 => k_is)
    (case k14 => k_is)
    (case a15 => k_is)
    (case l15 => k_is)
    (case c15 => k_is)
    (case k15 => k_is)
    (case a16 => k_is)
    (case l16 => k_is)
    (case c16 => k_is)
    (case k16 => k_is)
    (case a17 => k_is)
    (case l17 => k_is)
    (case c17 => k_is)
    (case k17 => k_is)
    (case a18 => k_is)
    (case l18 => k_is)
    (case c18 => k_is)
    (case k18 => k_is)
    (case a19 => k_is)
    (case l19 => k_is)
    (case c19 => k_is)
    (case k19 => k_is)
    (case a20 => k_is)
    (case l20 => k_is)
    (case c20 => k_is)
    (case k20 => k_is)
    (case a21 => k_is)
    (case l21 => k_is)
    (case c21 => k_is)
    (case k21 => k_is)
    (case a22 => k_is)
    (case l22 => k_is)
    (case c22 => k_is)
    (case k22 => k_is)
    (case a23 => k_is)
    (case l23 => k_is)
    (case c23 => k_is)
    (case k23 => k_is)
    (case a24 => k_is)
    (case l24 => k_is)
    (case c24 => k_is)
    (case k24 => k_is)
    (case a25 => k_is)
    (case l25 => k_is)
    (case c25 => k_is)
    (case k25 => k_is)
    (case a26 => k_is)
    (case l26 => k_is)
    (case c26 => k_is)
    (case k26 => k_is)
    (case a27 => k_is)
    (case l27 => k_is)
    (case c27 => k_is)
    (case k27 => k_is)
    (case a28 => k_is)
    (case l28 => k_is)
    (case c28 => k_is)
    (case k28 => k_is)
    (case a29 => k_is)
    (case l29 => k_is)
    (case c29 => k_is)
    (case k29 => k_is)
    (case a30 => k_is)
    (case l30 => k_is)
    (case c30 => k_is)
    (case k30 => k_is)
    (case a31 => k_is)
    (case l31 => k_is)
    (case c31 => k_is)
    (case k31 => k_is)
    (case a32 => k_is)
    (case l32 => k_is)
    (case c32 => k_is)
    (case k32 => k_is)
    (case a33 => k_is)
    (case l33 => k_is)
    (case c33 => k_is)
    (case k33 => k_is)
    (case a34 => k_is)
    (case l34 => k_is)
    (case c34 => k_is)
    (case k34 => k_is)
    (case a35 => k_is)
    (case l35 => k_is)
    (case c35 => k_is)
    (case k35 => k_is)
    (case a36 => k_is)
    (case l36 => k_is)
    (case c36 => k_is)
    (case k36 => k_is)
    (case a37 => k_is)
    (case l37 => k_is)
    (case c37 => k_is)
    (case k37 => k_is)
    (case a38 => k_is)
    (case l38 => k_is)
    (case c38 => k_is)
    (case k38 => k_is)
    (case a39 => k_is)
    (case l39 => k_is)
    (case c39 => k_is)
    (case k39 => k_is)
    (case a40 => k_is)
    (case l40 => k_is)
    (case c40 => k_is)
    (case k40 => k_is)
    (case a41 => k_is)
    (case l41 => k_is)
    (case c41 => k_is)
    (case k41 => k_is)
    (case a42 => k_is)
    (case l42 => k_is)
    (case c42 => k_is)
    (case k42 => k_is)
    (case a43 => k_is)
    (case l43 => k_is)
    (case c43 => k_is)
    (case k43 => k_is)
    (case a44 => k_is)
    (case l44 => k_is)
    (case c44 => k_is)
    (case k44 => k_is)
    (case a45 => k_is)
    (case l45 => k_is)
    (case c45 => k_is)
    (case k45 => k_is)
    (case a46 => k_is)
    (case l46 => k_is)
    (case c46 => k_is)
    (case k46 => k_is)
    (case a47 => k_is)
    (case l47 => k_is)
    (case c47 => k_is)
    (case k47 => k_is)
    (case z0 => k_is)
    (case z1 => k_is)
    (case z2 => k_is)
    (case z3 => k_is)
    (case z4 => k_is)
    (case z5 => k_is)
    (case z6 => k_is)
    (case z7 => k_is)
    (case z8 => k_is)
    (case z9 => k_is)
    (case z10 => k_is)
    (case z11 => k_is)
    (case z12 => k_is)
    (case z13 => k_is)
    (case z14 => k_is)
    (case z15 => k_is)
    (case z16 => k_is)
    (case z17 => k_is)
    (case y0 => k_is)
    (case y1 => k_is)
    (case y2 => k_is)
    (case y3 => k_is)
    (case y4 => k_is)
    (case eC_InvalidLine => k_is)
    (case eIc_InvalidLine => k_is)
    (case eTy_InvalidLine => k_is)
    (case eSb_InvalidLine => k_is)
    (case eSs_InvalidLine => k_is)
    (case eC_NotCareful => k_is)
    (case eIc_NotCareful => k_is)
    (case eTy_NotCareful => k_is)
    (case eSb_NotCareful => k_is)
    (case eSs_NotCareful => k_is)
    (case eC_InvalidImage => k_is)
    (case eIc_InvalidImage => k_is)
    (case eTy_InvalidImage => k_is)
    (case eSb_InvalidImage => k_is)
    (case eSs_InvalidImage => k_is)
    (case eC_NotRenaming => k_is)
    (case eIc_NotRenaming => k_is)
    (case eTy_NotRenaming => k_is)
    (case eSb_NotRenaming => k_is)
    (case eSs_NotRenaming => k_is)
    (case eC_RedoError => k_is)
    (case eIc_RedoError => k_is)
    (case eTy_RedoError => k_is)
    (case eSb_RedoError => k_is)
    (case eSs_RedoError => k_is)
    (case eX_InvalidLine => k_is)
    (case eSa_InvalidLine => k_is)
    (case eGa_InvalidLine => k_is)
    (case eGg_InvalidLine => k_is)
    (case eNb_InvalidLine => k_is)
    (case eIn_InvalidLine => k_is)
    (case eTf_InvalidLine => k_is)
    (case eLk_InvalidLine => k_is)
    (case eCd_InvalidLine => k_is)
    (case eKf_InvalidLine => k_is)
    (case eKp_InvalidLine => k_is)
    (case eHd_InvalidLine => k_is)
    (case eCc_InvalidLine => k_is)
    (case eSp_InvalidLine => k_is)
    (case eTk_InvalidLine => k_is)
    (case eMo_InvalidLine => k_is)
    (case eX_NotCareful => k_is)
    (case eSa_NotCareful => k_is)
    (case eGa_NotCareful => k_is)
    (case eGg_NotCareful => k_is)
    (case eNb_NotCareful => k_is)
    (case eIn_NotCareful => k_is)
    (case eTf_NotCareful => k_is)
    (case eLk_NotCareful => k_is)
    (case eCd_NotCareful => k_is)
    (case eKf_NotCareful => k_is)
    (case eKp_NotCareful => k_is)
    (case eHd_NotCareful => k_is)
    (case eCc_NotCareful => k_is)
    (case eSp_NotCareful => k_is)
    (case eTk_NotCareful => k_is)
    (case eMo_NotCareful => k_is)
    (case eX_InvalidImage => k_is)
    (case eSa_InvalidImage => k_is)
    (case eGa_InvalidImage => k_is)
    (case eGg_InvalidImage => k_is)
    (case eNb_InvalidImage => k_is)
    (case eIn_InvalidImage => k_is)
    (case eTf_InvalidImage => k_is)
    (case eLk_InvalidImage => k_is)
    (case eCd_InvalidImage => k_is)
    (case eKf_InvalidImage => k_is)
    (case eKp_InvalidImage => k_is)
    (case eHd_InvalidImage => k_is)
    (case eCc_InvalidImage => k_is)
    (case eSp_InvalidImage => k_is)
    (case eTk_InvalidImage => k_is)
    (case eMo_InvalidImage => k_is)
    (case eQx_NotRenaming => k_exc)
    (case eKp_NotRenaming => k_is)
    (case eGa_NotRenaming => k_is)
    (case eGg_NotRenaming => k_is)
    (case eHd_NotRenaming => k_is)
    (case eCc_NotRenaming => k_is)
    (case eSp_NotRenaming => k_is)
    (case eTk_NotRenaming => k_is)
    (case eMo_NotRenaming => k_is)
    (case eS_NotRenaming_InvalidImage => k_is)
    (case eS_InvalidLine_InvalidImage => k_is)
    (case eS_NotCareful_InvalidImage => k_is)
    (case eS_NotCareful_InvalidLine => k_is)
    (case eS_InvalidImage_RedoError => k_is)
    (case eS_InvalidImage_NotRenaming => k_is)
    (case eS_NotRenaming_RedoError => k_is)
    (case eS_NotRenaming_ValueError => k_is)
    (case eS_NotCareful_RedoError => k_is)
#print axioms PySem.Challenge.cw_redolots_k38_chains_and_rings_holds
