import PyProof.Rows.All
import Wide.All
import OpenK.AllK
import Wide.FinOn
import KE.GoesEnum
import HandS.Base
import HandS.Call
import HandS.List
import HandS.Comp
import HandS.Ends
import HandS.Dict
import HandS.Iter
import HandS.Text
import HandS.Words
import HandS.WordsList
import HandS.IsInst
import HandS.Walk
import HandS.Codes
import HandS.Conv
import HandS.FStr
import HandS.Text
import HandS.Codes
import KE.KUnpack
import PyProof.RulesMatch
import PyProof.RulesMatchSeq
import PyProof.Rows.MatchSeqLen
import KE.KExcIs
import HandS.Exc
import HandS.ExcInit
import HandS.ExcField
import HandS.ExcIs
import HandS.ExcOwn
import HandS.TryOnly
import HandS.WordsExc
import HandS.Star
import HandS.Defaults
import HandS.More
import HandS.TryMany
import HandS.CallSlots
import HandS.HotCalls
import HandS.Set
import HandS.Strs
import HandS.SetFor
import HandS.TupLen
import HandS.DictComp
import KE.KDictKeyed
import HandS.SetKeys
import HandS.SetBool
import HandS.TupMul
import HandS.Zip
import HandS.Remove
import KE.DatumOrd
import HandS.DictTup
import HandS.ClsMeth
import KE.KIndexOf
import KE.KDictZip
import HandS.Style
import KE.SortData
import HandS.Deep
import HandS.Gcd
import KE.KMathGC
import HandS.MakeKwOnly
import PySem.Challenge.RW_redolots_k42_count_goals
set_option Elab.async false
set_option linter.all false
set_option maxRecDepth 100000
set_option maxHeartbeats 4000000
/-! enumerate over a tracked tuple or a text, zip over two texts: walks of our own -/
namespace Rv
open PySem PySem.Spec PyProof.Rows L2

/-- an iterator that stands at it: n turns, turn i hands out what out says, as long as ok holds of the tracked heap -/
structure Feed (P : Program) (w : World) (K : PySem.W.Frag) (it : Addr) (n : Nat) (ok : Hp → Prop) (out : Nat → Option V) (st : Nat → Heap → Prop) : Prop where
  cell : ∀ i h, st i h → ∃ ob, h.get? it = some ob ∧ ∀ v, ob.data ≠ .cell v
  stay : ∀ i h1 h2, st i h1 → (∀ ob, h1.get? it = some ob → h2.get? it = some ob) → st i h2
  feed : ∀ (X : Cx), X.prog = P → X.w = w → X.K = K → X.calm = true → ∀ (pins : List (Addr × Obj)) (σ : L2.St) (H : Hp) (s : Shared), Inv X pins σ H s → ok H → H it = none →
    ∃ (fp : List Addr) (Pv : Nat → Value → Prop) (Sv : Nat → Heap → Prop), Draws X.prog X.w X.A.in1 it fp n Pv Sv ∧ (∀ i h, Sv i h → st i h) ∧ (∀ i, st i s.heap → Sv i s.heap) ∧
      (∀ i u, Pv i u → ∃ x, RelV x u ∧ out i = some x) ∧ ∀ b, b ≠ it → H b = none → b ∉ fp

theorem feed_tup {P : Program} {w : World} {K : PySem.W.Frag} (it a : Addr) (xs : List V) :
    Feed P w K it xs.length (fun H => H a = some (.tup xs)) (fun i => xs[i]?) (fun i h => h.IsTupleIter it a i) where
  cell := fun i h q => by
    obtain ⟨ob, e1, e2, e3⟩ := q
    refine ⟨ob, e1, fun v z => ?_⟩
    rw [e3] at z
    cases z
  stay := fun i h1 h2 q k => by
    obtain ⟨ob, e1, e2⟩ := q
    exact ⟨ob, k ob e1, e2⟩
  feed := fun X hP hw hK hc pins σ H s I hg hn => by
    obtain ⟨its, rv, hT, _⟩ := I.tuple (SqT.of (K := X.K) hg)
    have hl : its.toArray.size = xs.length := by
      rw [List.size_toArray]
      exact rv.length.symm
    have nai : a ≠ it := ne_of_none hg hn
    have D := Draws.tuple (prog := X.prog) (w := X.w) (A := X.A.in1) (show X.A.in1.handled = none from I.ok.hd hc) it a nai its.toArray
    rw [hl] at D
    refine ⟨[it, a], _, _, D, fun _ _ q => q.1, fun _ q => ⟨q, hT⟩, fun i u q => ?_, fun b hb hbn hm => ?_⟩
    · have q2 : its[i]? = some u := by simpa using q
      have hi : i < xs.length := by
        have := (List.getElem?_eq_some_iff.mp q2).1
        rw [rv.length]
        exact this
      obtain ⟨u', e1, r1⟩ := rv.get (List.getElem?_eq_getElem hi)
      rw [q2] at e1
      cases e1
      exact ⟨xs[i], r1, List.getElem?_eq_getElem hi⟩
    · rcases List.mem_cons.mp hm with z | z
      · exact hb z
      · have z2 : b = a := by simpa using z
        rw [z2, hg] at hbn
        cases hbn

/-- index and item in a new pair at each turn -/
def Jen (n : Nat) (ok : Hp → Prop) (out : Nat → Option V) : It :=
  ⟨fun i H => i < n ∧ ok H, fun i H v H' => ∃ T x, v = .ref T ∧ H T = none ∧ H' = upd H T (.tup [.int (i : Nat), x]) ∧ out i = some x, fun i H => i = n ∧ ok H⟩
theorem walk_jen {n : Nat} {ok : Hp → Prop} {out : Nat → Option V} : Walk (Jen n ok out) n ok (YPair (fun i => some (.int (i : Nat))) out) := by
  refine ⟨fun _ _ hi q => ⟨hi, q⟩, fun _ q => ⟨rfl, q⟩, fun i H v H' _ _ y => ?_⟩
  obtain ⟨T, x, a1, a2, a3, a4⟩ := y
  exact ⟨T, .int (i : Nat), x, a1, a2, a3, rfl, a4⟩

theorem turn_jen {P : Program} {w : World} {K : PySem.W.Frag} {elts : List Expr} {kk : Nat} {tp : Pos} {e it : Addr} {n : Nat} {ok : Hp → Prop} {out : Nat → Option V} {st : Nat → Heap → Prop}
    (F : Feed P w K it n ok out st) (hne : e ≠ it) :
    Turn P w K (.Tuple elts kk tp) (Jen n ok out) [e, it] e (fun i h => (∃ old, IsEnum h e it (0 + ((i : Nat) : Int)) old) ∧ st i h) where
  mem := List.mem_cons_self ..
  obj := fun i h q b hb => by
    obtain ⟨⟨old, he⟩, hs⟩ := q
    rcases List.mem_cons.mp hb with z | z
    · subst z
      exact ⟨_, he, fun v y => nomatch y⟩
    · have z2 : b = it := by simpa using z
      subst z2
      exact F.cell i h hs
  keep := fun i h1 h2 q k => by
    obtain ⟨⟨old, he⟩, hs⟩ := q
    exact ⟨⟨old, k e (by simp) _ he⟩, F.stay i h1 h2 hs fun ob => k it (by simp) ob⟩
  item := by
    intro X hP hw hK hc i pins s σ H E I hf q hg
    subst hP hw hK
    obtain ⟨⟨old, he⟩, hs⟩ := q
    have fe := hf e (by simp)
    have fi := hf it (by simp)
    obtain ⟨fp, Pv, Sv, D, back, go, val, off⟩ := F.feed X rfl rfl rfl hc pins σ H s I hg.2 fi.1
    refine wpAny_pyNext_enum_itemC D he (go i hs) hg.1 hne (off e hne fe.1) fun u h1 tk hu ho hs1 hT hsz hk => ?_
    obtain ⟨x, rx, ox⟩ := val i u hu
    refine ⟨_, rfl, wpAny_letOwnedTupleGo_enum (s := { s with heap := h1, toks := tk + 1 }) ho fun h2 he2 sb => ?_⟩
    have hel : e < s.heap.objs.size := Heap.lt_size he
    obtain ⟨oi, eoi, _⟩ := F.cell i s.heap hs
    have hil : it < s.heap.objs.size := Heap.lt_size eoi
    have hT2 : h2.get? s.heap.objs.size = some { cls := .type "tuple", data := .seq #[.int (0 + (i : Int)) tk, u] } := (sb.2 _ (Nat.ne_of_gt hel)).trans hT
    have kept : ∀ b ob, b ∉ [e, it] → s.heap.get? b = some ob → h2.get? b = some ob := fun b ob hb z => by
      have n1 : b ≠ e := fun y => hb (by rw [y]; simp)
      have n2 : b ≠ it := fun y => hb (by rw [y]; simp)
      exact (sb.2 b n1).trans (hk b ob n1 n2 z)
    have z0 : (0 + (i : Int)) = ((i : Nat) : Int) := by omega
    have fresh : ObjOk X.prog X.w (upd H s.heap.objs.size (.tup [.int (i : Nat), x])) h2 s.heap.objs.size (.tup [.int (i : Nat), x]) :=
      ⟨Nat.le_trans (show 2 ≤ 3 by decide) (by decide), [.int (0 + (i : Int)) tk, u], .cons ⟨tk, by rw [z0]⟩ (.cons rx .nil), ⟨_, hT2, rfl, _, rfl⟩⟩
    have I2 : Inv X pins σ (upd H s.heap.objs.size (.tup [.int (i : Nat), x])) { s with heap := h2, toks := tk + 1 } :=
      I.turnedNew (ch := [e, it]) kept hf (Nat.le_refl _) fresh
    refine ⟨.ref s.heap.objs.size, _, I2, rfl, ⟨_, x, rfl, I.hok.fresh (Nat.le_refl _), rfl, ox⟩, ⟨⟨u, ?_⟩, F.stay (i + 1) h1 h2 (back _ _ hs1) fun ob y => (sb.2 it hne.symm).trans y⟩, fun b hb => ?_⟩
    · have z1 : (0 + ((i + 1 : Nat) : Int)) = 0 + (i : Int) + 1 := by omega
      rw [z1]
      exact he2
    · have hb2 : b < s.heap.objs.size := by
        rcases List.mem_cons.mp hb with z | z
        · rw [z]; exact hel
        · rw [show b = it by simpa using z]; exact hil
      rw [upd_ne (Nat.ne_of_lt hb2)]
      exact (hf b hb).1
  done := by
    intro X hP hw hK hc i pins s σ H E I hf q hg
    subst hP hw hK
    obtain ⟨⟨old, he⟩, hs⟩ := q
    obtain ⟨rfl, hok⟩ := hg
    obtain ⟨f0, f1, f2, f3, f4, f5⟩ := hf it (by simp)
    obtain ⟨fp, Pv, Sv, D, back, go, val, off⟩ := F.feed X rfl rfl rfl hc pins σ H s I hok f0
    exact wpAny_pyNext_enum_endD D he (go _ hs) fun h1 eb => ⟨rfl, I.turned (t' := s.toks) (fun b ob hb y => eb b ob hb y) f0 f1 f3 f4 f5⟩
  self := fun A i s Q E q h => by
    obtain ⟨⟨old, he⟩, _⟩ := q
    exact wpAny_pyIter_enum he h

theorem en1 {v : Value} {o : Obj} {G : Heap → Prop} (B : Begins v o G) :
    Meets (Builtin.«enumerate.__new__» ⟨[.type "enumerate", v], []⟩) (fun _ R s => G s.heap ∧
      R (.ok (.ret (.ref (s.heap.push o).objs.size)))
        { s with heap := (s.heap.push o).push { cls := .type "enumerate", data := .fields #[.none, .bool false, .ref s.heap.objs.size, rawInt 0, .none, .none] } }) :=
  .of_wp fun prog w A R s h => by
    obtain ⟨hp, g, d, tk, os⟩ := s
    obtain ⟨h1, h⟩ := h
    have hsub := sub_enumerate
    have begun : ∀ {A' : Around} {E : Value → Shared → Prop} {Q : Value → Shared → Prop}, Q (.ref hp.objs.size) ⟨hp.push o, g, d, tk, os⟩ → wpAny (model prog w) A' (pyIter v) Q E ⟨hp, g, d, tk, os⟩ :=
      fun q => B.iter prog w _ _ ⟨hp, g, d, tk, os⟩ _ h1 q
    wp_walk using begun
    refine wpAny_stack_any fun stk => wpAny_pure ?_
    split
    · rename_i c _ _ _ _ _
      cases (c == Value.type "enumerate")
      all_goals (wp_walk using begun; exact ⟨_, rfl, h⟩)
    · wp_walk using begun
      exact ⟨_, rfl, h⟩
theorem enum1 {prog : Program} {w : World} {A : Around} {E : Value → Shared → Prop} {s : Shared} {v : Value} {o : Obj} {G : Heap → Prop} {Q : Value → Shared → Prop} (B : Begins v o G) (h1 : G s.heap)
    (h : ∀ h', IsEnum h' (s.heap.objs.size + 1) s.heap.objs.size 0 .none → h'.get? s.heap.objs.size = some o → (∀ b u, s.heap.get? b = some u → h'.get? b = some u) → Q (.ref (s.heap.objs.size + 1)) { s with heap := h' }) :
    wpAny (model prog w) A (call (.type "enumerate") [v]) Q E s := by
  refine callType_new F.called_enumerate (by decide) (F.typeCall_enumerate_1 _) (F.newCall_enumerate_1 _) (fun ob => F.args_object_init_2 ob _) F.entry_enumerate_new (en1 B) ⟨h1, ?_⟩
  have sz : (s.heap.push o).objs.size = s.heap.objs.size + 1 := Heap.size_push ..
  have here := Heap.get?_push_size (s.heap.push o) (o := { cls := .type "enumerate", data := .fields #[.none, .bool false, .ref s.heap.objs.size, rawInt 0, .none, .none] }) rfl
  rw [sz] at here
  show _ ∧ _
  rw [sz]
  exact ⟨⟨_, here, rfl⟩, h _ here (Heap.get?_push_of_some _ (Heap.get?_push_size _ B.free)) fun b u y => Heap.get?_push_of_some _ (Heap.get?_push_of_some _ y)⟩

/-! zip of two texts -/
end Rv
/-! steps of a reading, one a piece; heaps; the bag of draws -/
namespace Rv
open PySem PySem.Spec PyProof.Rows L2

theorem pe_k {X : Cx} {x : Str} {v : V} {pos : Pos} (hg : Gl X x) (h : ∃ u, X.mg x = some u ∧ RelV v u) (hd : (x == ("__debug__" : Str)) = false := by decide) : PE X (.Name x pos) (tC v) := by
  obtain ⟨u, hm, r⟩ := h
  exact pe_glob hg hm r hd

/-- a def of the top: where it stands, how its arguments bind -/
structure Def (K : PySem.W.Frag) (mg : Str → Option Value) (x : Str) (st : Stmt) (ps : List Str) (f : Addr) (fd : FuncData) : Prop where
  F : Fun K x x st f fd
  b : Binds K fd ps []
  g : mg x = some (.ref f)
theorem def_mk {K : PySem.W.Frag} {h : Heap} {mg : Str → Option Value} {x : Str} {st : Stmt} {ps : List Str} {f : Addr} {oc : Value} {od an : Option Addr} {osl : Array (Option Value)} {kV doc pm cdv ct : Value} (X : K.In h) (G : h.Ns mainGlobals mg)
    (a : PySem.W.nsIn K mainGlobals x = some (some (.ref f))) (l : K.lookup f = some ⟨oc, od, .func (PySem.W.fnOf x x (defArgs st) (defBody st) (defScope st) .none kV doc pm an cdv ct), osl⟩)
    (c : PySem.W.codeIn K cdv x = true) (k : PySem.W.keepIn K (.ref f) = true)
    (hb : ∀ (kV doc pm : Value) (an : Option Addr) (cdv ct : Value) (us : List Value), us.length = ps.length → bindArgs (PySem.W.fnOf x x (defArgs st) (defBody st) (defScope st) .none kV doc pm an cdv ct) ⟨us, []⟩ = pure (ps.zip us)) : ∃ f fd, Def K mg x st ps f fd := by
  have F := fun_mk (st := st) l c k
  exact ⟨f, _, F, F.binds hb, PySem.W.mg_of X G a⟩
theorem const_mk {K : PySem.W.Frag} {h : Heap} {mg : Str → Option Value} {x : Str} {u : Value} {v : V} (X : K.In h) (G : h.Ns mainGlobals mg) (a : PySem.W.nsIn K mainGlobals x = some (some u)) (r : RelV v u) : ∃ u, mg x = some u ∧ RelV v u := ⟨u, PySem.W.mg_of X G a, r⟩

section
variable {σ : L2.St} {H : Hp} {i : Nat} {v x y : V} {ta tb te : TE} {b : Bool} {K : PySem.W.Frag} {t u c : TT} {Q : VK} {QB : Bool → Hp → Prop} {QA : List V → Hp → Prop} {D : Ends} {s1 s2 : TS} {tr : TA} {r : R2}
theorem rd_var (h : σ[i]? = some (some v)) (q : Q v H) : tVar i σ H Q := ⟨v, h, q⟩
theorem rd_c (q : Q v H) : tC v σ H Q := q
theorem rd_op (q : ta σ H fun x H1 => tb σ H1 fun y H2 => r x y H2 Q) : tOp r ta tb σ H Q := q
theorem rd_un {r : V → Hp → VK → Prop} (q : ta σ H fun x H1 => r x H1 Q) : tUn r ta σ H Q := q
theorem rd_U {g : Int → V} {a : Int} (q : Q (g a) H) : rU g (.int a) H Q := ⟨a, rfl, q⟩
theorem rd_I0 {g : Int → Int → V} {a b : Int} (q : Q (g a b) H) : rI0 g (.int a) (.int b) H Q := ⟨a, b, rfl, rfl, q⟩
theorem rd_I {C : Int → Int → Prop} {g : Int → Int → V} {a b : Int} (hc : C a b) (q : Q (g a b) H) : rI C g (.int a) (.int b) H Q := ⟨a, b, rfl, rfl, hc, q⟩
theorem rd_eq (h : scal x y = true) (q : Q (.bl (decide (x = y))) H) : rEq x y H Q := ⟨h, q⟩
theorem rd_ne (h : scal x y = true) (q : Q (.bl (!decide (x = y))) H) : rNe x y H Q := ⟨h, q⟩
theorem rd_k {P : Bool → Prop} (q : P b) : ∃ k, V.bl b = V.bl k ∧ P k := ⟨b, rfl, q⟩
theorem rd_test (q : te σ H fun x H' => ∃ k, x = .bl k ∧ QB k H') : tTest te σ H QB := q
theorem rd_B (q : te σ H fun x H' => ∃ k, x = .bl k ∧ QB k H') : tB te σ H QB := q
theorem rd_not (q : t σ H fun c H1 => QB (!c) H1) : tNot t σ H QB := q
theorem rd_notV (q : te σ H fun x H1 => ∃ c, x = .bl c ∧ Q (.bl (!c)) H1) : tNotV te σ H Q := q
theorem rd_and (q : t σ H fun c H1 => if c = true then u σ H1 QB else QB false H1) : tAnd t u σ H QB := q
theorem rd_or (q : t σ H fun c H1 => if c = true then QB true H1 else u σ H1 QB) : tOr t u σ H QB := q
theorem rd_andV (q : ta σ H fun x H1 => ∃ c, x = .bl c ∧ if c = true then tb σ H1 Q else Q (.bl false) H1) : tAndV ta tb σ H Q := q
theorem rd_if (q : t σ H fun c H1 => if c = true then ta σ H1 Q else tb σ H1 Q) : tIf t ta tb σ H Q := q
theorem rd_chain {r' : R2} {tc : TE} (q : ta σ H fun x H1 => tb σ H1 fun y H2 => r x y H2 fun z H3 => ∃ k, z = .bl k ∧ if k = true then tc σ H3 fun w H4 => r' y w H4 Q else Q (.bl false) H3) : tChain r r' ta tb tc σ H Q := q
theorem rd_seq (q : s1 { D with nx := s2 D } σ H) : tSeq s1 s2 D σ H := q
theorem rd_next (q : D.nx σ H) : tNext D σ H := q
theorem rd_asg {g : TG} (q : te σ H fun x H1 => g x σ H1 D.nx) : tAsg te g D σ H := q
theorem rd_name {R : L2.St → Hp → Prop} (q : R (σ.set i (some v)) H) : gName i v σ H R := q
theorem rd_sub {to ti : TE} {ts : TSet} {R : L2.St → Hp → Prop} (q : to σ H fun o H1 => ti σ H1 fun i H2 => ts o i v H2 fun H3 => R σ H3) : gSub to ti ts v σ H R := q
theorem rd_gcons {g : TG} {gs : TGs} {R : L2.St → Hp → Prop} {vs : List V} (q : g v σ H fun σ' H' => gs vs σ' H' R) : gCons g gs (v :: vs) σ H R := ⟨v, vs, rfl, q⟩
theorem rd_gnil {R : L2.St → Hp → Prop} (q : R σ H) : gNil [] σ H R := ⟨rfl, q⟩
theorem rd_gtup {a : Addr} {xs : List V} {n : Nat} {gs : TGs} {R : L2.St → Hp → Prop} (h : H a = some (.tup xs)) (hn : xs.length = n) (q : gs xs σ H R) : gTup K n gs (.ref a) σ H R := ⟨a, xs, rfl, SqT.of h, hn, q⟩
theorem rd_ret (q : te σ H D.rt) : tRet te D σ H := q
theorem rd_drop (q : te σ H fun _ H1 => D.nx σ H1) : tDrop te D σ H := q
theorem rd_ifS (q : t σ H fun b H1 => if b = true then s1 D σ H1 else s2 D σ H1) : tIfS t s1 s2 D σ H := q
theorem rd_nil (q : QA [] H) : tNil σ H QA := q
theorem rd_cons (q : ta σ H fun x H1 => tr σ H1 fun xs H2 => QA (x :: xs) H2) : tCons ta tr σ H QA := q
theorem rd_CB {r : List V → Hp → VK → Prop} (q : tr σ H fun vs H1 => r vs H1 Q) : tCB r tr σ H Q := q
theorem rd_call {sp : Sp} {E : XK} (q : tr σ H fun vs H1 => sp vs H1 Q E) : tCall sp [] E tr σ H Q := by
  show tr σ H fun vs H1 => sp (vs ++ []) H1 Q E
  have e : (fun vs H1 => sp (vs ++ []) H1 Q E) = fun vs H1 => sp vs H1 Q E := by
    funext vs H1
    rw [List.append_nil]
  rw [e]
  exact q
theorem rd_ixL {p : Addr} {xs : List V} {a : Int} (h : SqL K H p xs) (e : atI xs a = some v) (q : Q v H) : rIxL K (.ref p) (.int a) H Q := ⟨p, xs, a, v, rfl, rfl, h, e, q⟩
theorem rd_ixT {p : Addr} {xs : List V} {a : Int} (h : H p = some (.tup xs)) (e : atI xs a = some v) (q : Q v H) : rIxT K (.ref p) (.int a) H Q := ⟨p, xs, a, v, rfl, rfl, SqT.of h, e, q⟩
theorem rd_setL {p : Addr} {xs : List V} {a : Int} {j : Nat} {R : Hp → Prop} (h : H p = some (.lst xs)) (e : ixN xs.length a = some j) (q : R (upd H p (.lst (xs.set j v)))) : rSetL (.ref p) (.int a) v H R := ⟨p, xs, a, j, rfl, rfl, h, e, q⟩
end

/-! built-in calls under names of their own -/
def rLenQ (K : PySem.W.Frag) : List V → Hp → VK → Prop := fun xs H Q => ∃ p ys, xs = [.ref p] ∧ (SqL K H p ys ∨ SqT K H p ys) ∧ Q (.int ys.length) H
def rIntQ : List V → Hp → VK → Prop := fun xs H Q => ∃ i, xs = [.int i] ∧ Q (.int i) H
def rAbsQ : List V → Hp → VK → Prop := fun xs H Q => ∃ i, xs = [.int i] ∧ Q (.int (if i < 0 then -i else i)) H
def rStrQ : List V → Hp → VK → Prop := fun xs H Q => ∃ i, xs = [.int i] ∧ i.natAbs.log2 < 1920 ∧ Q (.str (toString i)) H
def rTupQ (K : PySem.W.Frag) : List V → Hp → VK → Prop := fun xs H Q => ∃ p ys, xs = [.ref p] ∧ SqL K H p ys ∧ ∀ l, H l = none → Q (.ref l) (upd H l (.tup ys))
def rLstQ (K : PySem.W.Frag) : List V → Hp → VK → Prop := fun xs H Q => ∃ p ys, xs = [.ref p] ∧ (SqL K H p ys ∨ SqT K H p ys) ∧ ∀ l, H l = none → Q (.ref l) (upd H l (.lst ys))
def rMinQ : List V → Hp → VK → Prop := fun xs H Q => ∃ i j, xs = [.int i, .int j] ∧ Q (.int (if j < i then j else i)) H
section
variable {X : Cx}
theorem call_lenQ : CallR X (.builtin "len") (rLenQ X.K) := call_len_seq
theorem call_intQ : CallR X (.type "int") rIntQ := fun pins s σ H xs us Q I r h => call_int1 pins s σ H xs us Q I r (.inl h)
theorem call_absQ : CallR X (.builtin "abs") rAbsQ := call_abs
theorem call_strQ : CallR X (.type "str") rStrQ := call_str_int
theorem call_tupQ : CallR X (.type "tuple") (rTupQ X.K) := fun pins s σ H xs us Q I r h => call_tuple_of pins s σ H xs us Q I r (by
  obtain ⟨p, ys, e, h1, h2⟩ := h
  exact ⟨p, ys, e, .inl ⟨h1, h2⟩⟩)
theorem call_lstQ : CallR X (.type "list") (rLstQ X.K) := call_list_of
theorem call_minQ (hc : X.calm = true) : CallR X (.builtin "min") rMinQ := call_min2 hc
end
section
variable {H H1 H2 : Hp} {p a : Addr} {xs : List V} {K : PySem.W.Frag} {Q : VK} {o : HO} {A B : Prop} {b : Bool}


theorem rd_ixM {v : V} {i : Int} (h : H p = some (.lst xs)) (e : atI xs i = some v) (q : Q v H) : rIxL K (.ref p) (.int i) H Q := ⟨p, xs, i, v, rfl, rfl, SqL.of h, e, q⟩

theorem rd_lenT (h : H p = some (.tup xs)) (q : Q (.int xs.length) H) : rLenQ K [.ref p] H Q := ⟨p, xs, rfl, .inr (SqT.of h), q⟩
theorem rd_lenL (h : H p = some (.lst xs)) (q : Q (.int xs.length) H) : rLenQ K [.ref p] H Q := ⟨p, xs, rfl, .inl (SqL.of h), q⟩
theorem rd_intQ {i : Int} (q : Q (.int i) H) : rIntQ [.int i] H Q := ⟨i, rfl, q⟩
theorem rd_absQ {i : Int} (q : Q (.int (if i < 0 then -i else i)) H) : rAbsQ [.int i] H Q := ⟨i, rfl, q⟩
theorem rd_minQ {i j : Int} (q : Q (.int (if j < i then j else i)) H) : rMinQ [.int i, .int j] H Q := ⟨i, j, rfl, q⟩
theorem rd_strQ {i : Int} (h0 : 0 ≤ i) (h1 : i < 10) (q : Q (.str (toString i)) H) : rStrQ [.int i] H Q := ⟨i, rfl, Nat.lt_of_le_of_lt (Nat.log2_le_self _) (by omega), q⟩
theorem rd_isiT {T : String} (h : H p = some (.tup xs)) (e : kitB "tuple" T = some b) (q : Q (.bl b) H) : rIsi K [.ref p, .ty T] H Q := ⟨_, _, _, _, b, rfl, .ty T, .base (.tup h), kit_ty e, q⟩
theorem rd_isiL {T : String} (h : H p = some (.lst xs)) (e : kitB "list" T = some b) (q : Q (.bl b) H) : rIsi K [.ref p, .ty T] H Q := ⟨_, _, _, _, b, rfl, .ty T, .base (.lst h), kit_ty e, q⟩
theorem rd_isiI {T : String} {i : Int} (e : kitB "int" T = some b) (q : Q (.bl b) H) : rIsi K [.int i, .ty T] H Q := ⟨_, _, _, _, b, rfl, .ty T, .base (.int i), kit_ty e, q⟩
theorem kit_tt : kitB "tuple" "tuple" = some true := by decide +kernel
theorem kit_ii : kitB "int" "int" = some true := by decide +kernel
theorem kit_ib : kitB "int" "bool" = some false := by decide +kernel
theorem iteNT (h : B) : if (!true) = true then A else B := h
theorem iteNF (h : A) : if (!false) = true then A else B := h
theorem back (S : Same H1 H2) (h : H1 p = some o) : H2 p = some o := S _ _ h
end

section
variable {σ : L2.St} {H : Hp} {K : PySem.W.Frag} {Q : VK} {tb te : TE} {D p : Addr} {xs : List V}
theorem rd_yes {QB : Bool → Hp → Prop} (q : QB true H) : tYes σ H QB := q

theorem rd_all {bs : List Bool} (h : H p = some (.lst (bs.map V.bl))) (q : Q (.bl (bs.all id)) H) : rAll K [.ref p] H Q := ⟨p, bs, rfl, SqL.of h, q⟩
theorem rd_M1 {r : V → List V → Hp → VK → Prop} {z : Str} (q : te σ H fun y H2 => r (.str z) [y] H2 Q) : tM1 r (tC (.str z)) te σ H Q := ⟨⟨z, rfl⟩, q⟩



/-- a list's append, the list an own one -/
theorem rd_app {y : V} (h : H p = some (.lst xs)) (hz : xs.length < 1000) (q : Q .non (upd H p (.lst (xs ++ [y])))) : rAppend (.ref p) [y] H Q := ⟨p, xs, y, rfl, rfl, h, small1000 (by omega), q⟩
theorem rd_BMv {t : TA} {i : Nat} {r : V → List V → Hp → VK → Prop} (hv : σ[i]? = some (some (.ref p))) (h : H p = some (.lst xs)) (q : t σ H fun vs H2 => r (.ref p) vs H2 Q) : tBM K "list" r (tVar i) t σ H Q :=
  ⟨.ref p, hv, .inl ⟨rfl, _, SqL.of h⟩, q⟩
end
/-! loops and comprehensions under names of their own -/
def Fr (J : It) (g : TG) (tb : TS) (D : Ends) (σ : L2.St) (H : Hp) : Prop :=
  ∃ W : Nat → Nat → L2.St → Hp → Prop, (∃ m, W 0 m σ H) ∧ ∀ i m σ H, W i m σ H →
    (J.stop i H ∧ D.nx σ H) ∨ (J.go i H ∧ ∃ N : L2.St → Hp → Prop, (∀ σ' H', N σ' H' → ∃ m', m' < m ∧ W (i + 1) m' σ' H') ∧ ∀ x H', J.yld i H x H' → g x σ H' fun σ2 H2 => tb { D with nx := N, ct := N, bk := D.nx } σ2 H2)
def Lc (J : It) (g : TG) (tt : TT) (te : TE) (vs : List Nat) (σ : L2.St) (H0 : Hp) (Q : VK) : Prop :=
  ∀ D, H0 D = none → ∃ W : Nat → Nat → Hp → Prop, (∃ m, W 0 m (upd H0 D (.lst []))) ∧ ∀ i m H, W i m H →
    (J.stop i H ∧ Q (.ref D) H) ∨ (J.go i H ∧ ∃ Nx : Hp → Prop, (∀ H', Nx H' → ∃ m', m' < m ∧ W (i + 1) m' H') ∧ ∀ x H', J.yld i H x H' → g x (wipe σ vs) H' fun σ2 H2 => wipe σ2 vs = wipe σ vs ∧ tt σ2 H2 fun b H3 =>
      if b = true then te σ2 H3 fun y H4 => ∃ acc, H4 D = some (.lst acc) ∧ acc.length < sizeLine ∧ Nx (upd H4 D (.lst (acc ++ [y]))) else Nx H3)
def ItT (K : PySem.W.Frag) (R : It → Hp → Prop) (x : V) (H : Hp) : Prop := ∃ a, x = .ref a ∧ (∃ xs, SqT K H a xs) ∧ R (Itt K a) H
def ItL (K : PySem.W.Frag) (R : It → Hp → Prop) (x : V) (H : Hp) : Prop := ∃ a, x = .ref a ∧ (∃ xs, SqL K H a xs) ∧ R (Itl K a) H
def Rg1 (R : It → Hp → Prop) (vs : List V) (H : Hp) : Prop := ∃ j : Int, vs = [.int j] ∧ -(2 ^ 62) ≤ j ∧ j < 2 ^ 62 ∧ R (Itr 0 j.toNat) H
section
variable {σ : L2.St} {H : Hp} {K : PySem.W.Frag} {Q : VK} {te : TE} {tr : TA} {p : Addr} {xs : List V} {wi : TI} {g : TG} {tt : TT} {vs : List Nat} {tb : TS} {D : Ends} {R : It → Hp → Prop}
theorem rd_for (q : wi σ H fun J H1 => Fr J g tb D σ H1) : tFor wi g tb D σ H := q
theorem rd_lc (q : wi σ H fun J H1 => Lc J g tt te vs σ H1 Q) : tLc wi g tt te vs σ H Q := q
theorem rd_iTup (q : te σ H fun x H1 => ItT K R x H1) : iTup K te σ H R := q
theorem rd_iList (q : te σ H fun x H1 => ItL K R x H1) : iList K te σ H R := q
theorem rd_iRg1 (q : tr σ H fun vs H1 => Rg1 R vs H1) : iRng1 tr σ H R := q
theorem rd_ItT (h : H p = some (.tup xs)) (q : R (Itt K p) H) : ItT K R (.ref p) H := ⟨p, rfl, ⟨xs, SqT.of h⟩, q⟩
theorem rd_ItL (h : H p = some (.lst xs)) (q : R (Itl K p) H) : ItL K R (.ref p) H := ⟨p, rfl, ⟨xs, SqL.of h⟩, q⟩
theorem rd_Rg1 {j : Int} (h : -100000 ≤ j ∧ j ≤ 100000) (q : R (Itr 0 j.toNat) H) : Rg1 R [.int j] H := ⟨j, rfl, by omega, by omega, q⟩
end
theorem fr_it {J : It} {n : Nat} {G : Hp → Prop} {Y : Nat → Hp → V → Hp → Prop} (w : Walk J n G Y) {g : TG} {tb : TS} {D : Ends} {σ : L2.St} {H : Hp} (Pv : Nat → L2.St → Hp → Prop) (h0 : Pv 0 σ H) (hG : ∀ i σ H, i ≤ n → Pv i σ H → G H)
    (hs : ∀ i x σ H H', i < n → Pv i σ H → Y i H x H' → g x σ H' fun σ2 H2 => tb { D with nx := Pv (i + 1), ct := Pv (i + 1), bk := D.nx } σ2 H2) (hd : ∀ σ H, Pv n σ H → D.nx σ H) : Fr J g tb D σ H := for_it w Pv h0 hG hs hd
/-- a comprehension whose items are told beforehand: ys -/
theorem lc_map {J : It} {n : Nat} {G : Hp → Prop} {Y : Nat → Hp → V → Hp → Prop} (w : Walk J n G Y) {g : TG} {tt : TT} {te : TE} {vs : List Nat} {σ : L2.St} {H0 : Hp} {Q : VK} (ys : List V) (hn : ys.length = n) (sm : n ≤ 1000)
    (hG : ∀ H, Same H0 H → G H)
    (hs : ∀ i x H H' (Qc : VK) (R : Hp → Prop), i < n → Same H0 H → Y i H x H' → (∀ y H4, Same H H4 → ys[i]? = some y → Qc y H4) →
      g x (wipe σ vs) H' fun σ2 H2 => wipe σ2 vs = wipe σ vs ∧ tt σ2 H2 fun b H3 => if b = true then te σ2 H3 Qc else R H3)
    (hd : ∀ H D, Same H0 H → H0 D = none → H D = some (.lst ys) → Q (.ref D) H) : Lc J g tt te vs σ H0 Q := fun D nD =>
  lc_it w (Qd := fun H => Q (.ref D) H) (fun i H => Same H0 H ∧ H D = some (.lst (ys.take i))) ⟨fun a o e => by rw [upd_ne (ne_of_none e nD)]; exact e, upd_same⟩ (fun i H _ p => hG H p.1)
    (fun i x H H' hi p y => hs i x H H' _ _ hi p.1 y fun z H4 S ez => by
      refine ⟨ys.take i, S _ _ p.2, small1000 (by rw [List.length_take]; omega), fun a o e => ?_, ?_⟩
      · rw [upd_ne (ne_of_none e nD)]
        exact S _ _ (p.1 _ _ e)
      · rw [upd_same, List.take_add_one, ez]
        rfl)
    (fun H p => hd H D p.1 nD (by rw [p.2, List.take_of_length_le (by omega)]))
theorem fr_rng0 {n : Nat} {g : TG} {tb : TS} {D : Ends} {σ : L2.St} {H : Hp} (Pv : Nat → L2.St → Hp → Prop) (h0 : Pv 0 σ H)
    (hs : ∀ (i : Nat) σ H, i < n → Pv i σ H → g (.int (i : Int)) σ H fun σ2 H2 => tb { D with nx := Pv (i + 1), ct := Pv (i + 1), bk := D.nx } σ2 H2) (hd : ∀ σ H, Pv n σ H → D.nx σ H) : Fr (Itr 0 n) g tb D σ H :=
  for_range Pv h0 (fun i σ H hi p => by
    have q := hs i σ H hi p
    rw [← Int.zero_add (i : Int)] at q
    exact q) hd
theorem rd_sl {r : V → Option Int → Option Int → Hp → VK → Prop} {te : TE} {tl th : TO} {σ : L2.St} {H : Hp} {Q : VK} (q : te σ H fun x H1 => tl σ H1 fun l H2 => th σ H2 fun u H3 => r x l u H3 Q) : tSl r te tl th σ H Q := q
theorem rd_noP {σ : L2.St} {H : Hp} {QO : Option Int → Hp → Prop} (q : QO none H) : tNoPart σ H QO := q
theorem rd_part {t : TE} {σ : L2.St} {H : Hp} {QO : Option Int → Hp → Prop} (q : t σ H fun x H1 => ∃ i, x = .int i ∧ QO (some i) H1) : tPart t σ H QO := q
theorem rd_i {i : Int} {P : Int → Prop} (q : P i) : ∃ k, V.int i = V.int k ∧ P k := ⟨i, rfl, q⟩
theorem rd_slL {K : PySem.W.Frag} {p : Addr} {xs : List V} {lo hi : Option Int} {H : Hp} {Q : VK} (h : SqL K H p xs) (q : ∀ l, H l = none → Q (.ref l) (upd H l (.lst (cutV xs lo hi)))) : rSlL K (.ref p) lo hi H Q := ⟨p, xs, rfl, h, q⟩
/-- a comprehension over a range -/
theorem walk_rng {n : Nat} : Walk (Itr 0 n) n (fun _ => True) (fun i H x H' => H' = H ∧ x = .int (i : Nat)) :=
  (walk_range (lo := 0)).mono (fun _ _ => trivial) fun i H x H' _ _ y => ⟨y.1, by rw [y.2]; show V.int (0 + (i : Int)) = _; rw [Int.zero_add]⟩
theorem new_gen {H : Hp} {p : Addr} (o : HO) (np : H p = none) : ∃ H', H' = upd H p o ∧ Same H H' ∧ H' p = some o := ⟨_, rfl, fun a u e => by rw [upd_ne (ne_of_none e np)]; exact e, upd_same⟩
theorem same_new {H0 H : Hp} {p : Addr} {o : HO} (S : Same H0 H) (np : H p = none) : Same H0 (upd H p o) := fun a u e => by
  have e2 := S a u e
  rw [upd_ne (ne_of_none e2 np)]
  exact e2
theorem same_mut {H0 H : Hp} {p : Addr} {o : HO} (S : Same H0 H) (np : H0 p = none) : Same H0 (upd H p o) := fun a u e => by
  rw [upd_ne (ne_of_none e np)]
  exact S a u e
theorem atI_int {α : Type} {xs : List α} {a : Int} (h0 : 0 ≤ a) (h1 : a < xs.length) : ∃ v, atI xs a = some v ∧ xs[a.toNat]? = some v ∧ v ∈ xs := by
  have hj : a.toNat < xs.length := by omega
  refine ⟨xs[a.toNat], ?_, List.getElem?_eq_getElem hj, List.getElem_mem hj⟩
  have e : a = ((a.toNat : Nat) : Int) := by omega
  have q := atI_nat (xs := xs) (j := a.toNat) (List.getElem?_eq_getElem hj)
  rw [← e] at q
  exact q
theorem ixN_of {n : Nat} {a : Int} {j : Nat} (e : a = (j : Int)) (h : j < n) : ixN n a = some j := by
  subst e
  unfold ixN
  rw [if_pos (by omega), if_pos (by omega), Int.toNat_natCast]

theorem fmod_in {a m : Int} (h : 0 < m) : 0 ≤ a.fmod m ∧ a.fmod m < m := by
  rw [Int.fmod_eq_emod_of_nonneg _ (by omega)]
  exact ⟨Int.emod_nonneg _ (by omega), Int.emod_lt_of_pos _ h⟩
/-! the bag of draws: at c the script's cells, at b [cells, place, buffer, seed, count] -/
section
variable {c b p a : Addr} {ns : List Int} {H0 H H1 H2 : Hp} {o : HO} {xs : List V}
end
/-! a list of ints against the empty list -/
theorem dp_ints {K : PySem.W.Frag} {H : Hp} : ∀ fs : List Int, DpAll K H (fs.map V.int) (fs.map PyData.int)
  | [] => .nil
  | x :: r => .cons (.int x) (dp_ints r)
theorem lay_ints : ∀ fs : List Int, PyData.canLayAll0 (fs.map PyData.int) = true ∧ PyData.depthAll (fs.map PyData.int) = 0
  | [] => ⟨rfl, rfl⟩
  | x :: r => by
    obtain ⟨h1, h2⟩ := lay_ints r
    constructor
    · show (PyData.canLay0 (.int x) && PyData.canLayAll0 (r.map PyData.int)) = true
      rw [h1]
      rfl
    · show max (PyData.depth (.int x)) (PyData.depthAll (r.map PyData.int)) = 0
      rw [h2]
      rfl
/-! further walks -/
def ItS (R : It → Hp → Prop) (v : V) (H : Hp) : Prop := ∃ x, v = .str x ∧ R (Its x) H
section
variable {σ : L2.St} {H : Hp} {K : PySem.W.Frag} {Q : VK} {te : TE} {tr : TA} {p p2 : Addr} {xs ys : List V} {R : It → Hp → Prop}
theorem rd_iStr (q : te σ H fun v H1 => ItS R v H1) : iStr te σ H R := q
theorem rd_ItS {x : Str} (q : R (Its x) H) : ItS R (.str x) H := ⟨x, rfl, q⟩
theorem rd_rep {k : Int} (h : H p = some (.lst xs)) (k0 : 0 ≤ k) (k1 : k ≤ 1000) (hl : xs.length ≤ 10) (q : ∀ l, H l = none → Q (.ref l) (upd H l (.lst (List.replicate k.toNat xs).flatten))) : rRep (.ref p) (.int k) H Q := by
  refine ⟨p, k, xs, rfl, rfl, h, by omega, by omega, ?_, q⟩
  have e1 : xs.length * k.toNat ≤ 10 * 1000 := Nat.mul_le_mul hl (by omega)
  exact Nat.le_trans e1 (by decide)
end
end Rv
/-! the mathematics of lines over looks -/
namespace Rv
open PySem PySem.Spec PyProof.Rows L2
/-- the code of a block's sign -/
def sg (e : Int) : Nat := if e = -1 then 46 else 48 + (e.fdiv 100).toNat
def one (c : Nat) : Str := ⟨#[c]⟩
def txt (cs : List Nat) : Str := ⟨cs.toArray⟩
def codes (es : List Int) : List Nat := es.map sg
def Img (es : List Int) : Prop := 1 ≤ es.length ∧ es.length ≤ 12 ∧ ∀ e ∈ es, -1 ≤ e ∧ e ≤ 999
theorem txt_inj {a b : List Nat} (h : txt a = txt b) : a = b := by
  have q := congrArg (fun z : Str => z.cps.toList) h
  exact q
theorem sgn_inj {a b : Nat} (h : one a = one b) : a = b := by
  have q := congrArg (fun z : Str => z.cps.toList) h
  simpa [one] using q
theorem digit_txt : ∀ k : Nat, k < 10 → (Str.ofString (toString (k : Int))) = one (48 + k) := by decide +kernel
theorem digit_txtI {i : Int} (h0 : 0 ≤ i) (h1 : i < 10) : Str.ofString (toString i) = one (48 + i.toNat) := by
  obtain ⟨k, rfl⟩ : ∃ k : Nat, i = (k : Int) := ⟨i.toNat, by omega⟩
  exact digit_txt k (by omega)
theorem kind_small {e : Int} (h0 : 0 ≤ e) (h1 : e ≤ 999) : 0 ≤ e.fdiv 100 ∧ e.fdiv 100 < 10 := by
  rw [Int.fdiv_eq_ediv_of_nonneg _ (by decide)]
  omega
theorem join_sg (cs : List Nat) : Txt.join (Str.ofString "") (cs.map one) = txt cs := by
  rw [TL.join_eq]
  refine TL.ext_tl ?_
  rw [TL.tl_join]
  have go : ∀ cs : List Nat, TL.joinL (TL.tl (Str.ofString "")) ((cs.map one).map TL.tl) = cs := fun cs => by
    induction cs with
    | nil => rfl
    | cons x r ih =>
      cases r with
      | nil => rfl
      | cons y r => 
        show TL.tl (one x) ++ (TL.tl (Str.ofString "") ++ TL.joinL (TL.tl (Str.ofString "")) (((y :: r).map one).map TL.tl)) = x :: y :: r
        rw [ih]
        rfl
  exact go cs
theorem ones_sum (cs : List Nat) : ((cs.map one).map (·.length)).sum = cs.length := by
  induction cs with
  | nil => rfl
  | cons x r ih =>
    simp only [List.map_cons, List.sum_cons, List.length_cons, ih]
    show 1 + r.length = r.length + 1
    omega
def Sign (c : Nat) : Prop := c = 46 ∨ c = 42 ∨ c = 45 ∨ (48 ≤ c ∧ c ≤ 57)
/-- a row's words -/
def sCopy : Str := Str.ofString "copy"
def sMove : Str := Str.ofString "move"
def sClear : Str := Str.ofString "clear"
structure Ln where
  w : Str
  t : Int
  o : Int
  g : List Nat
def Ln.vals (r : Ln) : List V := [.str r.w, .int r.t, .int r.o, .str (txt r.g)]
structure LnOk (n : Nat) (r : Ln) : Prop where
  t0 : 0 ≤ r.t
  t1 : r.t < n
  word : (r.w = sClear ∧ r.o = -1) ∨ ((r.w = sCopy ∨ r.w = sMove) ∧ 0 ≤ r.o ∧ r.o < n ∧ r.o ≠ r.t)
  gl : r.g = [] ∨ r.g.length = n
  gs : ∀ c ∈ r.g, Sign c
theorem codes_len (es : List Int) : (codes es).length = es.length := by simp [codes]
/-- the look behind a line, by the look and by the image -/
theorem atI_ints {es : List Int} {k : Int} (h0 : 0 ≤ k) (h1 : k < es.length) : atI (es.map V.int) k = some (.int (es.getD k.toNat 0)) := by
  obtain ⟨v, e1, e2, _⟩ := atI_int (xs := es.map V.int) h0 (by rw [List.length_map]; exact h1)
  rw [e1, ← e2, List.getElem?_map, List.getD_eq_getElem?_getD, List.getElem?_eq_getElem (by omega)]
  rfl
end Rv
/-! lines one behind the other; twice is once; lists of tuples in a heap -/
namespace Rv
open PySem PySem.Spec PyProof.Rows L2
theorem getD_get {es : List Int} {k : Nat} (h : k < es.length) : es.getD k 0 = es[k] := by
  rw [List.getD_eq_getElem?_getD, List.getElem?_eq_getElem h]
  rfl
/-! lists of tuples -/
def TupsAt (H : Hp) (ps : List Addr) (vss : List (List V)) : Prop := ps.length = vss.length ∧ ∀ (i : Nat) (vs : List V), vss[i]? = some vs → ∃ p, ps[i]? = some p ∧ H p = some (.tup vs)
section
variable {H H' : Hp} {ps : List Addr} {vss : List (List V)} {p : Addr} {vs : List V} {c b : Addr} {ns : List Int}
theorem TupsAt.nil : TupsAt H [] [] := ⟨rfl, fun i vs e => by simp at e⟩
theorem TupsAt.same (S : Same H H') (h : TupsAt H ps vss) : TupsAt H' ps vss := ⟨h.1, fun i vs e => by
  obtain ⟨p, e1, e2⟩ := h.2 i vs e
  exact ⟨p, e1, S _ _ e2⟩⟩
/-- an object that is no tuple changes -/
theorem TupsAt.mut {a : Addr} {xs : List V} {o : HO} (ha : H a = some (.lst xs)) (h : TupsAt H ps vss) : TupsAt (upd H a o) ps vss := ⟨h.1, fun i vs e => by
  obtain ⟨p, e1, e2⟩ := h.2 i vs e
  exact ⟨p, e1, by rw [upd_ne (ne_of e2 ha (by intro z; cases z))]; exact e2⟩⟩
theorem TupsAt.app (h : TupsAt H ps vss) (hp : H p = some (.tup vs)) : TupsAt H (ps ++ [p]) (vss ++ [vs]) := ⟨by rw [List.length_append, List.length_append, h.1]; rfl, fun i us e => by
  by_cases k : i < vss.length
  · rw [List.getElem?_append_left k] at e
    obtain ⟨q, e1, e2⟩ := h.2 i us e
    exact ⟨q, by rw [List.getElem?_append_left (by rw [h.1]; exact k)]; exact e1, e2⟩
  · rw [List.getElem?_append_right (by omega)] at e
    have hi : i - vss.length = 0 := by
      have := (List.getElem?_eq_some_iff.mp e).1
      simp at this
      omega
    rw [hi] at e
    have e3 : vs = us := by simpa using e
    refine ⟨p, ?_, e3 ▸ hp⟩
    rw [List.getElem?_append_right (by rw [h.1]; omega), h.1, hi]
    rfl⟩
theorem TupsAt.drop (h : TupsAt H ps vss) (k : Nat) : TupsAt H (ps.drop k) (vss.drop k) := ⟨by rw [List.length_drop, List.length_drop, h.1], fun i vs e => by
  rw [List.getElem?_drop] at e
  obtain ⟨q, e1, e2⟩ := h.2 _ vs e
  exact ⟨q, by rw [List.getElem?_drop]; exact e1, e2⟩⟩
end
def rows (rs : List Ln) : List (List V) := rs.map Ln.vals
theorem take_next {α : Type} {rs : List α} {i : Nat} (h : i < rs.length) : rs.take (i + 1) = rs.take i ++ [rs[i]] := by
  rw [List.take_add_one, List.getElem?_eq_getElem h]
  rfl
end Rv
/-! flows; texts repeated; lists of lines compared -/
namespace Rv
open PySem PySem.Spec PyProof.Rows L2
def own (n : Nat) : List Int := (List.range n).map fun (i : Nat) => (i : Int)
theorem own_len (n : Nat) : (own n).length = n := by simp [own]
/-! deep comparisons -/
end Rv
/-! the match statement: patterns of texts, names and sequences over lists -/
namespace Rv
open PySem PySem.Spec PyProof.Rows L2
abbrev Bs := List (Nat × V)
abbrev TP := V → Hp → (Option Bs → Hp → Prop) → Prop
abbrev TPs := List V → Hp → (Option Bs → Hp → Prop) → Prop
section
variable {X : Cx}
end
/-! steps of these readings -/
section
variable {σ : L2.St} {H : Hp} {K : PySem.W.Frag} {te : TE} {tc tr : TC} {D : Ends} {tp : TP} {ts : TPs} {tg : TT} {tb : TS} {v : V} {Q : Option Bs → Hp → Prop} {a : Addr} {xs : List V} {n : Nat} {r : List V}
end
end Rv
/-! texts of lines: words, numbers, what is read -/
namespace Rv
open PySem PySem.Spec PyProof.Rows L2
/-! rules under names of their own -/
def rIsNQ : R2 := fun x y H Q => y = .non ∧ Q (.bl (decide (x = .non))) H
section
variable {X : Cx}
theorem op_isNQ : OpR X (compareOp .Is) rIsNQ := op_isN
end
section
variable {σ : L2.St} {H : Hp} {K : PySem.W.Frag} {Q : VK} {te to : TE} {ts : List TE} {a b acc : List Nat} {p : Addr} {xs : List V} {QB : Bool → Hp → Prop}
theorem rd_isN {v : V} (q : Q (.bl (decide (v = .non))) H) : rIsNQ v .non H Q := ⟨rfl, q⟩
end
/-! the numbers of blocks, written -/
/-! what is read -/
structure RdOk (r : Ln) : Prop where
  t0 : 0 ≤ r.t
  t1 : r.t < 12
  word : (r.w = sClear ∧ r.o = -1) ∨ ((r.w = sCopy ∨ r.w = sMove) ∧ 0 ≤ r.o ∧ r.o < 12 ∧ r.o ≠ r.t)
  gl : r.g.length ≤ 12
  gs : ∀ c ∈ r.g, Sign c
/-! deep comparisons of lines that are read -/
end Rv
/-! own errors: made, raised, caught, asked -/
namespace Rv
open PySem PySem.Spec PyProof.Rows L2
/-- what stands at the top under a name, if it is an object -/
def atTop (K : PySem.W.Frag) (x : Str) : Addr := match PySem.W.nsIn K mainGlobals x with
  | some (some (.ref a)) => a
  | _ => 0
theorem atTop_of {K : PySem.W.Frag} {x : Str} {a : Addr} (h : PySem.W.nsIn K mainGlobals x = some (some (.ref a))) : atTop K x = a := by
  unfold atTop
  rw [h]
/-- an error class with one field f, its own maker at fI -/
structure ErrT (K : PySem.W.Frag) (mg : Str → Option Value) (C fI : Addr) (x f : Str) : Prop where
  gC : mg x = some (.ref C)
  ox : OexC K C
  xf : XfC K C
  ec : ExcC K C
  icl : PySem.W.isClsIn K C = true
  noN : PySem.W.findIn K (.ref C) f = some none
  iC : PySem.W.findIn K (.ref C) "__init__" = some (some (.ref fI))
  tI : PySem.W.typeIn K (.ref fI) = some (.type "function")
/-- self.f = v, the maker's promise -/
def spErr (C : Addr) (f : Str) : Sp := fun vs H Q _ => ∃ (a : Addr) (v : V), vs = [.ref a, v] ∧ H a = some (exo a C none) ∧ ∀ d, H d = none → d ≠ a → Q .non (upd (upd H d (exd d [(f, v)])) a (exo a C (some d)))
def tRaiseQ (W : WX) (t : L2.St → Hp → XK → Prop) : TS := fun _ σ H => t σ H fun cls d H' => W cls d σ H'
theorem ps_raiseQ {X : Cx} {W : WX} {e : Expr} {t : L2.St → Hp → XK → Prop} {pos : Pos} (hc : X.calm = true) (tk : Takes X W) (he : PMk X e t) : PS X (.Raise (some e) none pos) (tRaiseQ W t) := ps_raise hc tk he
section
variable {X : Cx} {x n : Str} {c : Value} {i : Nat} {body suite : List Stmt} {b₀ : Stmt} {np pos pos' : Pos}
end
section
variable {σ : L2.St} {H : Hp} {K : PySem.W.Frag} {D : Ends} {Q : VK} {tb : WX → TS} {ts : Addr → Value → Option Addr → TS} {c : Value} {i : Nat} {W : WX} {ta : TA} {C a : Addr} {cls : Value} {d : Option Addr} {f : Str} {te : TE}
theorem rd_mkO {sp : Sp} {Q : XK} (q : ta σ H fun vs H1 => vs.length ≤ 1000 ∧ ∀ a, H1 a = none → sp (.ref a :: (vs ++ [])) (upd H1 a (exo a C none)) (fun v H2 => v = .non ∧ ∃ (d : Addr) (fs : List (Str × V)), H2 a = some (exo a C (some d)) ∧ H2 d = some (exd d fs) ∧ H1 d = none ∧ Q (.ref C) (some d) (upd (del H2 a) d (.xd fs))) (fun _ _ _ => False)) : tMkO C sp [] ta σ H Q := q
theorem rd_callS {sp : Sp} {E : L2.St → XK} (q : ta σ H fun vs H1 => sp vs H1 Q (E σ)) : tCallS sp E ta σ H Q := q
theorem rd_raise {t : L2.St → Hp → XK → Prop} (q : t σ H fun cls d H' => W cls d σ H') : tRaiseQ W t D σ H := q
theorem mkErr {Q : XK} {v : V} {H1 : Hp} (q : ∀ H' d, Same H1 H' → H' d = some (.xd [(f, v)]) → Q (.ref C) (some d) H') : [v].length ≤ 1000 ∧ ∀ a, H1 a = none → spErr C f (.ref a :: ([v] ++ [])) (upd H1 a (exo a C none))
  (fun v H2 => v = .non ∧ ∃ (d : Addr) (fs : List (Str × V)), H2 a = some (exo a C (some d)) ∧ H2 d = some (exd d fs) ∧ H1 d = none ∧ Q (.ref C) (some d) (upd (del H2 a) d (.xd fs))) (fun _ _ _ => False) := by
  refine ⟨by simp, fun a na => ⟨a, v, rfl, upd_same, fun d nd ne => ⟨rfl, d, [(f, v)], upd_same, ?_, ?_, ?_⟩⟩⟩
  · rw [upd_ne ne, upd_same]
  · rw [upd_ne ne] at nd
    exact nd
  · rw [upd_ne ne] at nd
    refine q _ d (fun b o e => ?_) upd_same
    have n1 : b ≠ a := ne_of_none e na
    have n2 : b ≠ d := ne_of_none e nd
    rw [upd_ne n2, del_ne n1, upd_ne n1, upd_ne n2, upd_ne n1]
    exact e
end
end Rv
/-! texts that may be wrong: what is read of them, line by line -/
namespace Rv
open PySem PySem.Spec PyProof.Rows L2
/-! rules of their own names, for texts that are bent -/
section
variable {σ : L2.St} {H : Hp} {K : PySem.W.Frag} {Q : VK} {te to : TE} {a b : List Nat} {p p2 : Addr} {xs ys : List V}
end
/-- words that are bounded: how many, how long in all, plain signs -/
structure Wb (n t : Nat) (ws : List (List Nat)) : Prop where
  n : ws.length ≤ n
  t : ws.flatten.length ≤ t
  c : ∀ w ∈ ws, ∀ c ∈ w, c < 128
theorem Wb.len {n t : Nat} {a : List (List Nat)} (h : Wb n t a) : ∀ w ∈ a, w.length ≤ t := fun w hw => by
  have : w.length ≤ a.flatten.length := by
    obtain ⟨i, hi, rfl⟩ := List.mem_iff_getElem.mp hw
    clear h hw
    induction a generalizing i with
    | nil => exact absurd hi (Nat.not_lt_zero _)
    | cons x r ih =>
      rw [List.flatten_cons, List.length_append]
      cases i with
      | zero => show x.length ≤ _; omega
      | succ i => have := ih i (by simpa using hi); simp only [List.getElem_cons_succ]; omega
  exact Nat.le_trans this h.t
end Rv
/-! boxes of draws of any make; pairs; calls with defaults, with a star; several named clauses -/
namespace Rv
open PySem PySem.Spec PyProof.Rows L2
/-- a box of draws: where it is, what of it changes, what it rests on -/
structure Box where
  b : Addr
  m : List Addr
  fp : List Addr
  I : Hp → Prop
  sub : ∀ a ∈ m, a ∈ fp
  live : ∀ H, I H → ∀ a ∈ fp, ∃ xs, H a = some (.lst xs)
  frame : ∀ H H', I H → (∀ a ∈ fp, H' a = H a) → I H'
structure Wg (B : Box) (H0 H : Hp) : Prop where
  keep : ∀ a o, a ∉ B.m → H0 a = some o → H a = some o
  i0 : B.I H0
  i1 : B.I H
section
variable {B : Box} {p a : Addr} {H0 H H1 H2 : Hp} {o : HO} {xs : List V}
theorem Box.ne (i : B.I H) (np : H p = none) : p ∉ B.fp := fun h => by
  obtain ⟨ys, e⟩ := B.live _ i p h
  rw [np] at e
  cases e
theorem Box.nem (i : B.I H) (np : H p = none) : p ∉ B.m := fun h => B.ne i np (B.sub _ h)
theorem Box.upd (i : B.I H) (n : p ∉ B.fp) : B.I (upd H p o) := B.frame _ _ i fun a ha => upd_ne fun e => n (e ▸ ha)
theorem Box.same (i : B.I H) (S : Same H H1) : B.I H1 := B.frame _ _ i fun a ha => by
  obtain ⟨ys, e⟩ := B.live _ i a ha
  rw [e]
  exact S _ _ e
theorem Wg.refl (i : B.I H) : Wg B H H := ⟨fun _ _ _ h => h, i, i⟩
theorem Wg.trans (w : Wg B H0 H1) (w2 : Wg B H1 H2) : Wg B H0 H2 := ⟨fun a o n h => w2.keep a o n (w.keep a o n h), w.i0, w2.i1⟩
theorem Wg.ofSame (i : B.I H) (S : Same H H1) : Wg B H H1 := ⟨fun a o _ h => S a o h, i, B.same i S⟩
theorem Wg.same (w : Wg B H0 H1) (S : Same H1 H2) : Wg B H0 H2 := w.trans (.ofSame w.i1 S)
theorem Wg.free (w : Wg B H0 H) (np : H p = none) : H0 p = none := by
  cases e : H0 p with
  | none => rfl
  | some o =>
    have n := B.nem w.i1 np
    rw [w.keep p o n e] at np
    cases np
theorem Wg.lst (w : Wg B H0 H) (n : a ∉ B.m) (h : H0 a = some o) : H a = some o := w.keep a o n h
theorem Wg.mut (w : Wg B H0 H) (np : H0 p = none) : Wg B H0 (upd H p o) :=
  ⟨fun a u n h => by rw [upd_ne (ne_of_none h np)]; exact w.keep a u n h, w.i0, B.upd w.i1 (B.ne w.i0 np)⟩
end
/-- the tuples stay -/
def Kt (H H' : Hp) : Prop := ∀ a xs, H a = some (.tup xs) → H' a = some (.tup xs)
section
variable {B : Box} {p a : Addr} {H0 H H1 H2 : Hp} {o : HO} {xs : List V}
theorem Kt.mut (h : H p = some (.lst xs)) : Kt H (upd H p o) := fun a ys e => by
  rw [upd_ne (ne_of e h (by intro z; cases z))]
  exact e
theorem Kt.new (h : H p = none) : Kt H (upd H p o) := fun a ys e => by
  rw [upd_ne (ne_of_none e h)]
  exact e
theorem TupsAt.kt {ps : List Addr} {vss : List (List V)} (w : Kt H H1) (h : TupsAt H ps vss) : TupsAt H1 ps vss := ⟨h.1, fun i vs e => by
  obtain ⟨p, e1, e2⟩ := h.2 i vs e
  exact ⟨p, e1, w _ _ e2⟩⟩
end
/-! pairs -/
def pv (p : Int × Int) : List V := [.int p.1, .int p.2]
structure PairOk (n : Nat) (p : Int × Int) : Prop where
  t0 : 0 ≤ p.1
  t1 : p.1 < n
  s0 : 0 ≤ p.2
  s1 : p.2 < n
  ne : p.1 ≠ p.2
def pvs (ps : List (Int × Int)) : List (List V) := ps.map pv
theorem pvs_len (ps : List (Int × Int)) : (pvs ps).length = ps.length := by simp [pvs]
/-! calls -/
/-- a def with one default, None -/
structure DefD (K : PySem.W.Frag) (mg : Str → Option Value) (x : Str) (st : Stmt) (ps : List Str) (f : Addr) (fd : FuncData) : Prop where
  F : FunD K x x (defArgs st) (defBody st) (defScope st) [.non] [] f fd
  b : Binds K fd ps []
  b1 : ∃ ds, Vals [V.non] ds ∧ Binds K fd ps ds
  g : mg x = some (.ref f)
/-- a def whose only parameter is starred -/
structure DefS (K : PySem.W.Frag) (mg : Str → Option Value) (x : Str) (st : Stmt) (f : Addr) (fd : FuncData) : Prop where
  F : Fun K x x st f fd
  g : mg x = some (.ref f)
section
variable {X : Cx} {k : Nat} {f : Addr} {sp : Sp} {x : Str} {p pos : Pos} {e : Expr} {es : List Expr} {t : TA} {CX : CXT} {E : XK}
end
end Rv
/-! several except clauses, each with a name of its own -/
namespace Rv
open PySem PySem.Spec PyProof.Rows L2
section
variable {X : Cx} {pins : List (Addr × Obj)} {σ : L2.St} {H : Hp} {s s' : Shared} {a : Addr} {G h3 : Heap} {D : Ends} {q : Value} {d : Option Addr}
end
end Rv
/-! more steps of a reading; data at any depth; items that may be no lines; copy logs -/
namespace Rv
open PySem PySem.Spec PyProof.Rows L2
/-! methods of lists -/
def rPopQ : V → List V → Hp → VK → Prop := fun x vs H Q => ∃ (l : Addr) (xs : List V) (k : Nat) (y : V), x = .ref l ∧ vs = [.int (k : Int)] ∧ H l = some (.lst xs) ∧ xs[k]? = some y ∧ k ≤ 1000 ∧ Q y (upd H l (.lst (xs.eraseIdx k)))
theorem mt_popQ {X : Cx} : MtM X "list.pop" rPopQ := fun pins s σ H x xs v us Q I rx rs h => by
  obtain ⟨l, ys, k, y, rfl, rfl, e, h1, h2, q⟩ := h
  have hk : k < ys.length := by
    by_cases z : k < ys.length
    · exact z
    · rw [List.getElem?_eq_none (by omega)] at h1
      cases h1
  refine mt_popAt pins s σ H _ _ v us Q I rx rs ⟨l, ys, (k : Int), k, y, rfl, rfl, e, by omega, by omega, ?_, h1, q⟩
  unfold seqIndex?
  have e1 : (if (k : Int) < 0 then (k : Int) + (ys.length : Int) else (k : Int)) = (k : Int) := if_neg (by omega)
  show (if (decide (0 ≤ (if (k : Int) < 0 then (k : Int) + (ys.length : Int) else (k : Int))) && decide ((if (k : Int) < 0 then (k : Int) + (ys.length : Int) else (k : Int)) < (ys.length : Int))) = true then _ else _) = _
  rw [e1, if_pos (by rw [Bool.and_eq_true]; exact ⟨decide_eq_true (by omega), decide_eq_true (by omega)⟩), Int.toNat_natCast]
section
variable {σ : L2.St} {H : Hp} {K : PySem.W.Frag} {Q : VK} {te : TE} {tr : TA} {p p2 l : Addr} {xs ys : List V} {R : It → Hp → Prop} {y : V} {k : Nat} {QB : Bool → Hp → Prop}
theorem rd_popQ (h : H l = some (.lst xs)) (e : xs[k]? = some y) (hk : k ≤ 1000) (q : Q y (upd H l (.lst (xs.eraseIdx k)))) : rPopQ (.ref l) [.int (k : Int)] H Q := ⟨l, xs, k, y, rfl, rfl, h, e, hk, q⟩
theorem rd_catL {xs ys : List V} (h : H p = some (.lst xs)) (h2 : H p2 = some (.lst ys)) (hl : xs.length + ys.length ≤ 1000) (q : ∀ l, H l = none → Q (.ref l) (upd H l (.lst (xs ++ ys)))) : rCat (.ref p) (.ref p2) H Q := ⟨p, p2, xs, ys, rfl, rfl, h, h2, Nat.le_of_lt (small1000 (by omega)), q⟩
theorem kit_lt : kitB "list" "tuple" = some false := by decide +kernel
theorem rd_inLf {x : V} (h : H p = some (.lst xs)) (fx : flatV x = true) (fs : xs.all flatV = true) (q : Q (.bl (inV x xs)) H) : rIn K false x (.ref p) H Q := ⟨p, xs, rfl, .inl (SqL.of h), fx, fs, q⟩
theorem rd_ninLf {x : V} (h : H p = some (.lst xs)) (fx : flatV x = true) (fs : xs.all flatV = true) (q : Q (.bl (!inV x xs)) H) : rIn K true x (.ref p) H Q := ⟨p, xs, rfl, .inl (SqL.of h), fx, fs, q⟩
end
theorem inV_ints {k : Int} {ns : List Int} : inV (.int k) (ns.map V.int) = decide (k ∈ ns) := by
  unfold inV
  rw [List.any_map]
  have e : ((fun y => eqV y (.int k)) ∘ V.int) = fun n : Int => n == k := by
    funext n
    rfl
  rw [e, Bool.eq_iff_iff, List.any_eq_true, decide_eq_true_eq]
  exact ⟨fun ⟨x, h1, h2⟩ => by rw [← beq_iff_eq.mp h2]; exact h1, fun h => ⟨k, h, beq_self_eq_true _⟩⟩
/-! data at any depth -/
structure Sh (k : Nat) (d : PyData) : Prop where
  l : PyData.canLay0 d = true
  d : PyData.depth d ≤ k
theorem Sh.int {k : Nat} (i : Int) : Sh k (.int i) := ⟨rfl, Nat.zero_le _⟩
theorem Sh.bool {k : Nat} (b : Bool) : Sh k (.bool b) := ⟨rfl, Nat.zero_le _⟩
theorem Sh.str {k : Nat} {s : Str} (h : PyData.strOk s = true) : Sh k (.str s) := ⟨h, Nat.zero_le _⟩
theorem Sh.all {k : Nat} : ∀ {ds : List PyData}, (∀ d ∈ ds, Sh k d) → PyData.canLayAll0 ds = true ∧ PyData.depthAll ds ≤ k
  | [], _ => ⟨rfl, Nat.zero_le _⟩
  | d :: r, h => by
    obtain ⟨a1, a2⟩ := h d (List.mem_cons_self ..)
    obtain ⟨b1, b2⟩ := Sh.all fun e he => h e (List.mem_cons_of_mem _ he)
    constructor
    · show (PyData.canLay0 d && PyData.canLayAll0 r) = true
      rw [a1, b1]
      rfl
    · show max (PyData.depth d) (PyData.depthAll r) ≤ k
      omega
theorem Sh.tuple {k : Nat} {ds : List PyData} (h : ∀ d ∈ ds, Sh k d) : Sh (k + 1) (.tuple ds) := ⟨(Sh.all h).1, Nat.succ_le_succ (Sh.all h).2⟩
theorem Sh.list {k : Nat} {ds : List PyData} (h : ∀ d ∈ ds, Sh k d) : Sh (k + 1) (.list ds) := ⟨(Sh.all h).1, Nat.succ_le_succ (Sh.all h).2⟩
theorem Sh.shaped {d : PyData} {k : Nat} (h : Sh k d) (hk : k ≤ 64) : SeqAt.shaped d = true := by
  unfold SeqAt.shaped
  rw [Bool.and_eq_true]
  exact ⟨h.l, decide_eq_true (Nat.le_trans h.d hk)⟩
/-! what may stand in a script -/
inductive Im where
  | tup (xs : List V)
  | lst (xs : List V)
  | non
def ImAt (M : List Addr) (H : Hp) (v : V) : Im → Prop
  | .tup xs => ∃ p, v = .ref p ∧ H p = some (.tup xs)
  | .lst xs => ∃ p, v = .ref p ∧ p ∉ M ∧ H p = some (.lst xs)
  | .non => v = .non
structure ImsAt (M : List Addr) (H : Hp) (vs : List V) (is : List Im) : Prop where
  len : vs.length = is.length
  at_ : ∀ (i : Nat) (it : Im), is[i]? = some it → ∃ v, vs[i]? = some v ∧ ImAt M H v it
/-- four fields: a word, two numbers, a text -/
def Wf : Im → Prop
  | .tup xs => xs.length = 4 → ∃ r : Ln, xs = r.vals ∧ r.g.length ≤ 1000
  | _ => True
def Good (n : Nat) (it : Im) : Prop := ∃ r : Ln, it = .tup r.vals ∧ LnOk n r
/-! scripts that are right, and those that are not -/
end Rv
/-! what copy logs do -/
namespace Rv
open PySem PySem.Spec PyProof.Rows L2
def aft (p : Int × Int) (es : List Int) : List Int := es.set p.1.toNat (es.getD p.2.toNat 0)
def fin (es : List Int) (ps : List (Int × Int)) : List Int := ps.foldl (fun es p => aft p es) es
/-! idle lines -/
/-- a comprehension whose step makes nothing of what stood; Pv tells what is made so far -/
theorem lc_acc2 {J : It} {n : Nat} {G : Hp → Prop} {Y : Nat → Hp → V → Hp → Prop} (w : Walk J n G Y) {g : TG} {tt : TT} {te : TE} {vs : List Nat} {σ : L2.St} {H0 : Hp} {Q : VK} (Pv : Nat → List V → Hp → Prop) (p0 : Pv 0 [] H0)
    (st : ∀ i acc H H', Kt H H' → Pv i acc H → Pv i acc H') (sm : ∀ i acc H, i ≤ n → Pv i acc H → acc.length < 1000) (hG : ∀ H, Same H0 H → G H)
    (hs : ∀ i x H H' acc (Qc : VK) (R : Hp → Prop), i < n → Same H0 H → Pv i acc H → Y i H x H' → (∀ y H4, Same H H4 → Pv (i + 1) (acc ++ [y]) H4 → Qc y H4) → (∀ H4, Same H H4 → Pv (i + 1) acc H4 → R H4) →
      g x (wipe σ vs) H' fun σ2 H2 => wipe σ2 vs = wipe σ vs ∧ tt σ2 H2 fun b H3 => if b = true then te σ2 H3 Qc else R H3)
    (hd : ∀ H D acc, Same H0 H → H0 D = none → H D = some (.lst acc) → Pv n acc H → Q (.ref D) H) : Lc J g tt te vs σ H0 Q := fun D nD =>
  lc_it w (Qd := fun H => Q (.ref D) H) (fun i H => Same H0 H ∧ i ≤ n ∧ ∃ acc, H D = some (.lst acc) ∧ Pv i acc H) ⟨same_new (Same.refl _) nD, Nat.zero_le _, [], upd_same, st _ _ _ _ (Kt.new nD) p0⟩ (fun i H _ p => hG H p.1)
    (fun i x H H' hi p y => by
      obtain ⟨w0, hin, acc, hD, pa⟩ := p
      refine hs i x H H' acc _ _ hi w0 pa y (fun z H4 S4 pz => ?_) (fun H4 S4 pz => ⟨w0.trans S4, hi, acc, S4 _ _ hD, pz⟩)
      have hD4 := S4 _ _ hD
      exact ⟨acc, hD4, small1000 (by have := sm i acc H (by omega) pa; omega), same_mut (w0.trans S4) nD, hi, _, upd_same, st _ _ _ _ (Kt.mut hD4) pz⟩)
    (fun H p => by
      obtain ⟨w0, _, acc, hD, pa⟩ := p
      exact hd H D acc w0 nD hD pa)
theorem lc_acc {J : It} {n : Nat} {G : Hp → Prop} {Y : Nat → Hp → V → Hp → Prop} (w : Walk J n G Y) {g : TG} {tt : TT} {te : TE} {vs : List Nat} {σ : L2.St} {H0 : Hp} {Q : VK} (Pv : Nat → List V → Prop) (p0 : Pv 0 [])
    (sm : ∀ i acc, i ≤ n → Pv i acc → acc.length < 1000) (hG : ∀ H, Same H0 H → G H)
    (hs : ∀ i x H H' acc (Qc : VK) (R : Hp → Prop), i < n → Same H0 H → Pv i acc → Y i H x H' → (∀ y H4, Same H H4 → Pv (i + 1) (acc ++ [y]) → Qc y H4) → (∀ H4, Same H H4 → Pv (i + 1) acc → R H4) →
      g x (wipe σ vs) H' fun σ2 H2 => wipe σ2 vs = wipe σ vs ∧ tt σ2 H2 fun b H3 => if b = true then te σ2 H3 Qc else R H3)
    (hd : ∀ H D acc, Same H0 H → H0 D = none → H D = some (.lst acc) → Pv n acc → Q (.ref D) H) : Lc J g tt te vs σ H0 Q :=
  lc_acc2 w (fun i acc _ => Pv i acc) p0 (fun _ _ _ _ _ p => p) (fun i acc _ => sm i acc) hG hs hd
end Rv
/-! new objects by what holds of them; the box of the laws on copy logs; orders -/
namespace Rv
open PySem PySem.Spec PyProof.Rows L2
def New (o : HO) (n : Nat) (Q : VK) (H : Hp) : Prop := n ≤ sizeLine ∧ ∀ p, H p = none → Q (.ref p) (upd H p o)
def NewL (o : HO) (Q : VK) (H : Hp) : Prop := ∀ p, H p = none → Q (.ref p) (upd H p o)
section
variable {σ : L2.St} {H : Hp} {K : PySem.W.Frag} {Q : VK} {tr : TA} {a : Addr} {xs ys : List V} {o : HO} {n : Nat} {te : L2.St → Hp → (Int → Int → Hp → Prop) → Prop} {lo hi : Option Int}
theorem new_q {R : Hp → Prop} {p : Addr} {o : HO} (np : H p = none) (q : ∀ H2, Same H H2 → H2 p = some o → R H2) : R (upd H p o) := q _ (fun a u e => by rw [upd_ne (ne_of_none e np)]; exact e) upd_same
theorem rd_newL (q : ∀ H2 p, Same H H2 → H p = none → H2 p = some o → Q (.ref p) H2) : NewL o Q H := fun p np => new_q (R := fun H => Q (.ref p) H) np fun H2 S h => q H2 p S np h
theorem rd_newQ (hn : n ≤ 1000) (q : ∀ H2 p, Same H H2 → H p = none → H2 p = some o → Q (.ref p) H2) : New o n Q H := ⟨Nat.le_of_lt (small1000 hn), rd_newL q⟩
theorem rd_tupN (q : tr σ H fun xs H1 => New (.tup xs) xs.length Q H1) : tTup tr σ H Q := q
theorem rd_lstN (q : tr σ H fun xs H1 => New (.lst xs) xs.length Q H1) : tLst tr σ H Q := q
theorem rd_lstTN (h : H a = some (.tup xs)) (q : NewL (.lst xs) Q H) : rLstQ K [.ref a] H Q := ⟨a, xs, rfl, .inr (SqT.of h), q⟩
theorem rd_tupLN (h : H a = some (.lst xs)) (q : NewL (.tup xs) Q H) : rTupQ K [.ref a] H Q := ⟨a, xs, rfl, SqL.of h, q⟩
theorem rd_catLN {b : Addr} (h : H a = some (.lst xs)) (h2 : H b = some (.lst ys)) (hl : xs.length + ys.length ≤ 1000) (q : NewL (.lst (xs ++ ys)) Q H) : rCat (.ref a) (.ref b) H Q := rd_catL h h2 hl q
end
/-! dicts by whole numbers -/
/-! the box -/
/-! orders of the blocks -/
structure Ord (n : Nat) (os : List Int) : Prop where
  perm : os.Perm (own n)
theorem Ord.len {n : Nat} {os : List Int} (o : Ord n os) : os.length = n := o.perm.length_eq.trans (own_len n)
/-- a list of pairs that grows -/
structure Lg (H : Hp) (l : Addr) (n : Nat) (as : List Addr) (ps : List (Int × Int)) : Prop where
  at_ : H l = some (.lst (as.map V.ref))
  t : TupsAt H as (pvs ps)
  ok : ∀ p ∈ ps, PairOk n p
section
variable {H H' : Hp} {l D : Addr} {n : Nat} {as : List Addr} {ps : List (Int × Int)} {p : Int × Int}
theorem Lg.len (L : Lg H l n as ps) : as.length = ps.length := L.t.1.trans (pvs_len ps)
end
end Rv
/-! items of scripts that are made wrong: their data, their marks -/
namespace Rv
open PySem PySem.Spec PyProof.Rows L2
theorem SqT.sm {K : PySem.W.Frag} {H H' : Hp} {a : Addr} {xs : List V} (S : Same H H') (h : SqT K H a xs) : SqT K H' a xs := h.imp (fun z => z.imp (fun y => S _ _ y) fun ⟨o, y⟩ => ⟨o, S _ _ y⟩) id
mutual
theorem Dp.sm {K : PySem.W.Frag} {H H' : Hp} (S : Same H H') : ∀ {v : V} {d : PyData}, Dp K H v d → Dp K H' v d
  | _, _, .non => .non
  | _, _, .bl b => .bl b
  | _, _, .int i => .int i
  | _, _, .str x => .str x
  | _, _, .lst h k => .lst (Same.seq S h) (DpAll.sm S k)
  | _, _, .tup h k => .tup (SqT.sm S h) (DpAll.sm S k)
theorem DpAll.sm {K : PySem.W.Frag} {H H' : Hp} (S : Same H H') : ∀ {vs : List V} {ds : List PyData}, DpAll K H vs ds → DpAll K H' vs ds
  | _, _, .nil => .nil
  | _, _, .cons h k => .cons (Dp.sm S h) (DpAll.sm S k)
end
/-! fields of items -/
/-! marks: 0 a plain copy, 1 another line, 2 no line -/
/-! texts by multiplication, none among them -/
end Rv
/-! defs that raise nothing, called within an except suite -/
namespace Rv
open PySem PySem.Spec PyProof.Rows L2
/-- such a def's promise; p: the object of what is handled -/
structure FnQ (P : Program) (w : World) (K : PySem.W.Frag) (mg : Str → Option Value) (base : Heap) (k : Nat) (f : Addr) (fd : FuncData) (ps : List Str) (sp : Sp) : Prop where
  len : ∀ vs H Q E, sp vs H Q E → vs.length = ps.length
  go : ∀ (A : Around) (outer : List Env) (s : Shared) (H : Hp) (args : Args) (us : List Value) (vs : List V) (Q : VK) (E : XK) (p : Addr × Obj),
    L2H.RoomH k A → L2H.PinOk outer H s p → Env0 P w K mg base A outer s H → BindsTo s fd args (ps.zip us) → Vals vs us → sp vs H Q E → codeAny (model P w) A (.call (.ref f) args) (CR CX0 outer P w H s Q E) s
section
variable {P : Program} {w : World} {K : PySem.W.Frag} {mg : Str → Option Value} {base : Heap} {k : Nat} {f : Addr} {fd : FuncData} {N ps : List Str} {sp : Sp} {st : Stmt} {x qual : Str}
theorem fn_Q (F : Fun K x qual st f fd) (S : FnScope N ps (defScope st)) (len : ∀ vs H Q E, sp vs H Q E → vs.length = ps.length)
    (hb : ∀ (cdv : Value) (A : Around) (outer : List Env) (s : Shared) (H : Hp) (vs : List V) (Q : VK) (E : XK) (p : Addr × Obj), L2H.RoomH k (A.deeper (envOfC qual (defScope st) s.heap.objs.size f cdv)) → sp vs H Q E →
      ∃ t, PSs (L2H.cxH CX0 P w K mg base N qual (defScope st) f cdv A outer s H E p) (defBody st) t ∧ t ⟨fun _ H1 => Q .non H1, Q, fun _ _ => False, fun _ _ => False⟩ (L2.start N vs) H) : FnQ P w K mg base (k + 1) f fd ps sp := by
  obtain ⟨oc, od, kV, doc, pm, an, cdv, ct, osl, rfl, lk, hcd⟩ := F.ex
  constructor
  · exact len
  intro A outer s H args us vs Q E p hr pin e0 hbd rv hsp
  have hl := len _ _ _ _ hsp
  have base_in := e0.mod.kin.keeps fun b o e => (e0.bs b o e).1
  have base_lim := e0.mod.nolimit.keeps fun b o e => (e0.bs b o e).1
  have kinds : ∀ y ∈ ps.zip us, (defScope st).names.lookup y.1 = some .local ∨ ((defScope st).names.lookup y.1 = some .cell ∧ ((cellsFrom (s.heap.objs.size + 1) (defScope st).names []).lookup y.1).isSome = true) := by
    rintro ⟨n, v⟩ hy
    exact (S.par n (List.of_mem_zip hy).1).imp id fun q => ⟨q, PySem.W.cellsFrom_some _ _ _ (.inl q)⟩
  refine codeAny_call_function hr.depth (base_in _ _ lk) rfl S.co S.gen rfl (PySem.W.codeRec_of base_in hcd) (hbd _ _ _ _ (wpAny_newFunctionEnv_cells S.kind kinds fun env he s1 xc => ?_))
  subst he
  obtain ⟨t, ht, hq⟩ := hb cdv A outer s H vs Q E p (hr.deeper _) hsp
  refine ⟨base_lim.keeps xc.toInCall.keep, codeAny_func (wpAny_mono (ht.run [] s1 _ H _ (L2H.inv_startH S pin e0 hl rv xc) hq) (fun fl s2 hs => ?_) fun e s2 hs => hs)⟩
  cases fl with
  | ret u => exact hs.elim fun v hs => hs.elim fun σ1 hs => hs.elim fun H1 hs => ⟨v, H1, hs.1.os, hs.1.bare, hs.1.base, hs.1.hok, hs.2.1, hs.2.2⟩
  | next => exact hs.elim fun σ1 hs => hs.elim fun H1 hs => ⟨.non, H1, hs.1.os, hs.1.bare, hs.1.base, hs.1.hok, rfl, hs.2⟩
  | brk => exact hs.elim fun _ hs => hs.elim fun _ hs => hs.2.elim
  | cont => exact hs.elim fun _ hs => hs.elim fun _ hs => hs.2.elim
end
section
variable {X : Cx} {k : Nat} {f : Addr} {fd : FuncData} {ps : List Str} {sp : Sp} {x : Str} {q pos : Pos} {e : Expr} {es : List Expr} {t : TA}
end
end Rv
/-! sets of whole numbers, made of lists and tuples -/
namespace Rv
open PySem PySem.Spec PyProof.Rows L2
section
variable {P : Program} {w : World} {A : Around} {E : Value → Shared → Prop} {s : Shared}
abbrev noSet (w : World) : Obj := ⟨.type "set", none, .set #[] 0 (.fresh 0 0 (!w.params.followText "set-order")), #[]⟩
theorem set_list {l : Addr} {its : Array Value} {ns : List Int} {Q : Value → Shared → Prop} (calm : A.handled = none) (isl : s.heap.IsList l its) (vals : IntsAre its.toList ns) (small : ns.length + 1 < scanBound)
    (fin : ∀ (G : Heap) (tk c : Nat), SetR w G s.heap.objs.size (fun j => decide (j ∈ ns)) c → c ≤ ns.length → (∀ b o, s.heap.get? b = some o → G.get? b = some o) → Q (.ref s.heap.objs.size) { s with heap := G, toks := tk }) :
    wpAny (model P w) A (call (.type "set") [.ref l]) Q E s := by
  have many : its.size = ns.length := by rw [← Array.length_toList]; exact IntsAre.length vals
  obtain ⟨cc, tl, hmro⟩ := F.called_set.mro
  have m0 := F.called_set.made
  have m1 := F.called_set.sub
  have m2 := F.called_set.notType
  have m3 := F.called_set.canCreate
  have m4 := F.typeCall_set_1 (.ref l)
  refine wpAny_call (codeAny_of_tree ?_)
  show wpAny (model P w) _ (callAny (.type "set") ⟨[.ref l], []⟩) _ _ s
  refine wpAny_pure ⟨Code.quiet_builtin _ (by decide +kernel), codeAny_builtin F.entry_type_call ?_⟩
  rw [Around.under_plain (weight_type_call_type "set" [.ref l] []) rfl]
  repeat (any_goals (first | assumption | wp_step))
  refine codeAny_mono (code_set_led1 (.ref l) (E := E) (Q₁ := fun r s1 => r = .ref s.heap.objs.size ∧ s1 = { s with heap := s.heap.push (noSet w) }) ⟨rfl, rfl⟩) fun r s1 hr => ?_
  match r, hr with
  | .error e, hr => exact hr
  | .ok (.ret _), ⟨e1, e2⟩ =>
    subst e1 e2
    have new : (s.heap.push (noSet w)).get? s.heap.objs.size = some (noSet w) := Heap.get?_push_size _ rfl
    have newT : Shared.TypeIs { s with heap := s.heap.push (noSet w) } (.ref s.heap.objs.size) "set" := ⟨_, new, rfl⟩
    have i0 := F.called_set.init.lookup
    have i1 := F.called_set.init.bind (.ref s.heap.objs.size)
    repeat (any_goals (first | assumption | wp_step))
    refine codeAny_mono (codeAny_call_builtin (R := wants (fun r s2 => r = .none ∧ ∃ G tk c, s2 = { s with heap := G, toks := tk } ∧ SetR w G s.heap.objs.size (fun j => decide (j ∈ ns)) c ∧ c ≤ ns.length ∧ ∀ b o, s.heap.get? b = some o → G.get? b = some o) E)
      F.called_set.init.plain F.entry_set_init (check_set_init_1 newT ?_)) fun r2 s2 hr2 => ?_
    · obtain ⟨⟨lc, ld, lt, ls⟩, lget, lcls, nn, ldat⟩ := isl
      obtain rfl : lc = .type "list" := lcls
      obtain rfl : lt = .seq its nn := ldat
      have under : l < s.heap.objs.size := Heap.lt_size lget
      have lget1 : (s.heap.push (noSet w)).get? l = some ⟨.type "list", ld, .seq its nn, ls⟩ := Heap.get?_push_of_some _ lget
      have lat : (s.heap.push (noSet w)).IsList l its := ⟨_, lget1, rfl, nn, rfl⟩
      have k1 := F.sub_list_set
      have k2 := F.sub_list_frozenset
      have k3 : (Value.type "list" == Value.type "dict") = false := by decide
      unfold Builtin.«set.__init__» noKeywords Builtin.Frozenset.updateFrom
      generalize hpi : pyIter = it_
      wp_walk
      subst hpi
      have calm3 : A.in1.in1.in1.handled = none := calm
      have next : (s.heap.push (noSet w)).objs.size = s.heap.objs.size + 1 := Heap.size_push ..
      have apart : l ≠ (s.heap.push (noSet w)).objs.size := fun z => absurd under (by rw [z, next]; exact Nat.not_lt.mpr (Nat.le_succ _))
      have away : s.heap.objs.size ∉ [(s.heap.push (noSet w)).objs.size, l] := fun z => by
        rcases List.mem_cons.mp z with z | z
        · rw [next] at z
          exact absurd z (Nat.ne_of_lt (Nat.lt_succ_self _))
        · exact absurd (List.mem_singleton.mp z).symm (Nat.ne_of_lt under)
      refine wpAny_pyIter_list lat (wpAny_bind (wpAny_runValue (set_update_ints ((Walks.list calm3 _ l apart its).toS) s.heap.objs.size away ns many small (fun i v e => ?_) (its.size - 0) 0 _ (by omega) (Nat.zero_le _) ⟨⟨_, Heap.get?_push_size _ rfl, rfl, rfl⟩, lat.push _⟩ ?_ fun s3 c moved cle sr => ?_)))
      · have hi : i < ns.length := by rw [← many]; exact (Array.getElem?_eq_some_iff.mp e).1
        obtain ⟨t, et⟩ := PyProof.Rows.IntsAre.int_at vals i v (by rw [Array.getElem?_toList]; exact e)
        refine ⟨ns[i], t, List.getElem?_eq_getElem hi, et.trans ?_⟩
        rw [List.getD_eq_getElem?_getD, List.getElem?_eq_getElem hi]
        rfl
      · exact ⟨0, Nat.le_refl 0, setR_new_at (Heap.get?_push_of_some _ new)⟩
      · obtain ⟨G, g3, d3, tk3, os3⟩ := s3
        obtain rfl : g3 = s.gens := moved.gens
        obtain rfl : d3 = s.drawn := moved.drawn
        obtain rfl : os3 = s.os := moved.os
        refine wpAny_pure (wpAny_pure ⟨rfl, G, tk3, c, rfl, sr, by rw [← many]; exact cle, fun b o e => moved.heap b o (fun z => ?_) (Heap.get?_push_of_some _ (Heap.get?_push_of_some _ e))⟩)
        have lo := Heap.lt_size e
        rcases List.mem_cons.mp z with z | z
        · exact absurd z (Nat.ne_of_lt lo)
        · have z2 := List.mem_singleton.mp z
          rw [next] at z2
          exact absurd z2 (Nat.ne_of_lt (Nat.lt_succ_of_lt lo))
    · match r2, hr2 with
      | .error e, hr2 => exact hr2
      | .ok (.ret _), ⟨z1, G, tk, c, z2, sr, cle, kp⟩ =>
        subst z1 z2
        repeat (any_goals (first | assumption | wp_step))
        exact fin _ _ _ sr cle kp
      | .ok .next, hr2 => exact hr2.elim
      | .ok .brk, hr2 => exact hr2.elim
      | .ok .cont, hr2 => exact hr2.elim
  | .ok .next, hr => exact hr.elim
  | .ok .brk, hr => exact hr.elim
  | .ok .cont, hr => exact hr.elim
end
section
variable {X : Cx}
/-- set(xs), xs a list or a tuple of whole numbers -/
def rSetI (K : PySem.W.Frag) (w : World) : List V → Hp → VK → Prop := fun xs H Q => ∃ (p : Addr) (ns : List Int), xs = [.ref p] ∧ (SqL K H p (ns.map V.int) ∨ SqT K H p (ns.map V.int)) ∧ ns.length < 64 ∧
  ∀ (a : Addr) (c : Nat), H a = none → c ≤ ns.length → Q (.ref a) (upd H a (SetO w a (fun j => decide (j ∈ ns)) c))
theorem cr_setI (hc : X.calm = true) : CallR X (.type "set") (rSetI X.K X.w) := by
  intro pins s σ H xs us Q I r h
  obtain ⟨p, ns, rfl, hs, h64, q⟩ := h
  have sb : ns.length + 1 < scanBound := by unfold scanBound; omega
  rw [Vals.ref1 r]
  rcases hs with hs | hs
  · obtain ⟨its, rv, ⟨o, n, ho, hcl, _, hd⟩, _⟩ := I.list hs
    exact set_list (its := its.toArray) (I.ok.hd hc) ⟨o, ho, hcl, n, hd⟩ (ints_of_vals rv) sb fun G tk c R hcn k => ⟨.ref _, upd H s.heap.objs.size (SetO X.w s.heap.objs.size (fun j => decide (j ∈ ns)) c), I.laid (t' := tk) k (Nat.le_refl _) (setO_new R), rfl, q _ c (I.hok.fresh (Nat.le_refl _)) hcn⟩
  · obtain ⟨its, rv, ht, _⟩ := I.tuple hs
    exact call_set_tupI ns (I.ok.hd hc) (show s.heap.IsTuple p its.toArray from ht) (ints_of_vals rv) sb fun G tk c R hcn k => ⟨.ref _, upd H s.heap.objs.size (SetO X.w s.heap.objs.size (fun j => decide (j ∈ ns)) c), I.laid (t' := tk) k (Nat.le_refl _) (setO_new R), rfl, q _ c (I.hok.fresh (Nat.le_refl _)) hcn⟩
end
section
variable {K : PySem.W.Frag} {w : World} {H : Hp} {Q : VK} {p a : Addr} {ns : List Int} {c : Nat}
theorem rd_setI (h : H p = some (.lst (ns.map V.int)) ∨ H p = some (.tup (ns.map V.int))) (l : ns.length < 64) (q : ∀ H2 a c, Same H H2 → H a = none → c ≤ ns.length → H2 a = some (SetO w a (fun j => decide (j ∈ ns)) c) → Q (.ref a) H2) : rSetI K w [.ref p] H Q :=
  ⟨p, ns, rfl, h.imp SqL.of SqT.of, l, fun a c na hc => q _ a c (fun b u e => by rw [upd_ne (ne_of_none e na)]; exact e) na hc upd_same⟩
end
end Rv
/-! which blocks matter -/
namespace Rv
open PySem PySem.Spec PyProof.Rows L2
theorem dp_ints2 {K : PySem.W.Frag} {H : Hp} {D : Addr} {es : List Int} (h : H D = some (.lst (es.map V.int))) : Dp K H (.ref D) (.list (es.map PyData.int)) := .lst (SqL.of h) (dp_ints es)
theorem sh_ints2 (es : List Int) : Sh 1 (.list (es.map PyData.int)) := Sh.list fun d hd => by
  obtain ⟨i, _, rfl⟩ := List.mem_map.mp hd
  exact Sh.int i
end Rv
/-! searches; what restarts from the top do -/
namespace Rv
open PySem PySem.Spec PyProof.Rows L2
section
variable {P : Type}
inductive Rch (nx : P → List P) (s : P) : P → Prop
  | refl : Rch nx s s
  | step {p q : P} (h : Rch nx s p) (m : q ∈ nx p) : Rch nx s q
/-- a search between two turns: what waits, what was met, how many were taken up -/
structure Sr (nx : P → List P) (s : P) (td seen : List P) (i : Nat) : Prop where
  nd : seen.Nodup
  st : s ∈ seen
  rc : ∀ p ∈ seen, Rch nx s p
  tds : ∀ p ∈ td, p ∈ seen
  cl : ∀ p ∈ seen, p ∈ td ∨ ∀ q ∈ nx p, q ∈ seen
  cnt : i + td.length = seen.length
/-- p was taken up, the first j of what follows were looked at -/
structure Pr (nx : P → List P) (s p : P) (td seen : List P) (i j : Nat) : Prop where
  nd : seen.Nodup
  st : s ∈ seen
  pin : p ∈ seen
  rc : ∀ p ∈ seen, Rch nx s p
  tds : ∀ p ∈ td, p ∈ seen
  cl : ∀ q ∈ seen, q ∈ td ∨ q = p ∨ ∀ r ∈ nx q, r ∈ seen
  done : ∀ (k : Nat) q, k < j → (nx p)[k]? = some q → q ∈ seen
  cnt : i + 1 + td.length = seen.length
variable {nx : P → List P} {s p q : P} {td seen : List P} {i j : Nat}
theorem Sr.all (S : Sr nx s [] seen i) (q : P) : q ∈ seen ↔ Rch nx s q := ⟨S.rc q, fun r => by
  induction r with
  | refl => exact S.st
  | step h m ih =>
    rcases S.cl _ ih with k | k
    · exact absurd k List.not_mem_nil
    · exact k _ m⟩
end
/-! from the top -/
section
variable {n : Nat} {ps : List (Int × Int)}
/-! by images -/
end
end Rv
/-! searches in the heap: what waits, tables of what was met -/
namespace Rv
open PySem PySem.Spec PyProof.Rows L2
section
variable {σ : L2.St} {H : Hp} {K : PySem.W.Frag} {Q : VK} {p : Addr} {xs : List V} {y : V} {D : Ends}
end
section
variable {H H' : Hp} {d b : Addr} {ls : List (List Int)} {es : List Int} {Q : VK} {R : Hp → Prop} {v : V}
end
/-! a table of places -/
def rowG (n k : Nat) (seen : List (Nat × Nat)) : List V := (List.range n).map fun b => V.bl (decide ((k, b) ∈ seen))
structure Grid (H : Hp) (g : Addr) (m n : Nat) (rws : List Addr) (seen : List (Nat × Nat)) : Prop where
  at_ : H g = some (.lst (rws.map V.ref))
  len : rws.length = m
  nd : rws.Nodup
  ng : g ∉ rws
  row : ∀ (k : Nat) r, rws[k]? = some r → H r = some (.lst (rowG n k seen))
section
variable {H H' : Hp} {g l : Addr} {m n k b : Nat} {rws : List Addr} {seen : List (Nat × Nat)}
end
/-! the least place that spoils -/
/-! how many come to a block -/
theorem eqv_intsL : ∀ (a b : List Int), PyData.eqv (.list (a.map PyData.int)) (.list (b.map PyData.int)) = decide (a = b)
  | [], [] => rfl
  | [], _ :: _ => rfl
  | _ :: _, [] => rfl
  | x :: r, y :: t => by
    have ih := eqv_intsL r t
    have e : PyData.eqv (.list ((x :: r).map PyData.int)) (.list ((y :: t).map PyData.int)) = (decide (x = y) && PyData.eqv (.list (r.map PyData.int)) (.list (t.map PyData.int))) := rfl
    rw [e, ih, Bool.eq_iff_iff, Bool.and_eq_true, decide_eq_true_eq, decide_eq_true_eq, decide_eq_true_eq, List.cons.injEq]
theorem rd_eqL {K : PySem.W.Frag} {H : Hp} {Q : VK} {p p2 : Addr} {xs ys : List Int} (h : H p = some (.lst (xs.map V.int))) (h2 : H p2 = some (.lst (ys.map V.int))) (q : Q (.bl (decide (xs = ys))) H) : rEqD K (.ref p) (.ref p2) H Q :=
  ⟨_, _, dp_ints2 h, dp_ints2 h2, (sh_ints2 _).shaped (by decide), (sh_ints2 _).shaped (by decide), by rw [eqv_intsL]; exact q⟩
end Rv
/-! late lines -/
namespace Rv
open PySem PySem.Spec PyProof.Rows L2
/-- the last of the first k lines that writes on b, or -1 -/
def lw (ps : List (Int × Int)) (b : Int) : Nat → Int
  | 0 => -1
  | k + 1 => match ps[k]? with
    | some p => if p.1 = b then (k : Int) else lw ps b k
    | none => lw ps b k
section
variable {n : Nat} {ps : List (Int × Int)}
/-! the same by images -/
end
end Rv
namespace Rv
open PySem PySem.Spec PyProof.Rows L2
/-! how many come to a block -/
section
variable {n k b : Nat} {ps : List (Int × Int)}
end
end Rv
/-! dicts whose keys are pairs of a number and a row of numbers -/
namespace Rv
open PySem PySem.Spec PyProof.Rows L2
section
variable {X : Cx} {pins : List (Addr × Obj)} {σ : L2.St} {H : Hp} {s : Shared} {a b : Addr} {xs : List NE} {k : NK} {A : Around} {E : Value → Shared → Prop} {Pg : Program} {wd : World}
/-! readings -/
end
section
variable {X : Cx} {o i e value : Expr} {pos pos' tpos : Pos} {td ty tv : TE} {P : Program} {w : World}
end
section
variable {σ : L2.St} {H H' : Hp} {Q : VK} {D : Ends} {P : Program} {w : World} {td ty tv : TE} {d b l : Addr} {ks : List NK} {k : NK} {v : V} {R : Hp → Prop} {o : HO}
end
end Rv
/-! a dict comprehension stored on its line; searches over places with images -/
namespace Rv
open PySem PySem.Spec PyProof.Rows L2
section
variable {X : Cx}
end
section
variable {H : Hp} {Q : VK} {p : Addr} {xs : List V} {y : V}
theorem rd_appB (h : H p = some (.lst xs)) (hz : xs.length < 100000) (q : Q .non (upd H p (.lst (xs ++ [y])))) : rAppend (.ref p) [y] H Q := ⟨p, xs, y, rfl, rfl, h, by rw [sizeLine_eq]; omega, q⟩
end
/-! places with images -/
section
variable {H H' : Hp} {as : List Addr} {ps : List (Nat × List Int)} {a : Addr} {p : Nat × List Int}
end
end Rv
namespace Rv
open PySem PySem.Spec PyProof.Rows L2
/-- the dict of the last writes -/
structure Lw (ps : List (Int × Int)) (i : Nat) (kvs : List (Key × V)) : Prop where
  len : kvs.length ≤ i
  val : ∀ b : Int, valV kvs (Sum.inl b) = if lw ps b i < 0 then none else some (.int (lw ps b i))
end Rv
/-! from an old mark -/
namespace Rv
open PySem PySem.Spec PyProof.Rows L2
/-- block b matters at position k -/
def Mt (n : Nat) (ps : List (Int × Int)) (k : Nat) (b : Int) : Prop := b ∈ fin (own n) (ps.drop k)
section
variable {n : Nat} {ps : List (Int × Int)}
/-! the same by images -/
end
/-- what mattered so far: each block with the least position -/
structure Mm (n : Nat) (ps : List (Int × Int)) (j : Nat) (kvs : List (Key × V)) : Prop where
  len : kvs.length ≤ j * 12
  some_ : ∀ (b : Int) v, valV kvs (Sum.inl b) = some v → ∃ k : Nat, v = .int k ∧ k < j ∧ Mt n ps k b ∧ ∀ k', k' < k → ¬ Mt n ps k' b
  none_ : ∀ b : Int, valV kvs (Sum.inl b) = none → ∀ k, k < j → ¬ Mt n ps k b
/-- the same while the blocks os that matter at i are gone through -/
structure Mi (n : Nat) (ps : List (Int × Int)) (i : Nat) (os : List Int) (j : Nat) (kvs : List (Key × V)) : Prop where
  len : kvs.length ≤ i * 12 + j
  some_ : ∀ (b : Int) v, valV kvs (Sum.inl b) = some v → (∃ k : Nat, v = .int k ∧ k < i ∧ Mt n ps k b ∧ ∀ k', k' < k → ¬ Mt n ps k' b) ∨ (v = .int i ∧ b ∈ os ∧ ∀ k, k < i → ¬ Mt n ps k b)
  none_ : ∀ b : Int, valV kvs (Sum.inl b) = none → (∀ k, k < i → ¬ Mt n ps k b) ∧ b ∉ os.take j
section
variable {n i j : Nat} {ps : List (Int × Int)} {os : List Int} {kvs : List (Key × V)}
end
/-- the tables of what matters, from position j on -/
structure Tb (H : Hp) (n : Nat) (ps : List (Int × Int)) (j : Nat) (ts : List Addr) : Prop where
  len : ts.length + j = ps.length + 1
  at_ : ∀ i, i + j ≤ ps.length → ∃ (a : Addr) (os : List Int), ts[i]? = some a ∧ H a = some (.lst (os.map V.int)) ∧ os.length + (j + i) ≤ 12 + ps.length ∧ ∀ x, x ∈ os ↔ Mt n ps (j + i) x
end Rv
/-! set comprehensions whose elements are whole numbers -/
namespace Rv
open PySem PySem.Spec PyProof.Rows L2 PpSet
section
variable {X : Cx}
variable {elt tg iter : Expr} {ifs : List Expr} {scope : Scope} {own : List (PySem.Str × Nat)} {pos : Pos} {wi : TI} {g : TG} {tt : TT} {te : TE} {w : World}
end
end Rv
/-! another box of draws; images that may be wrong; replacing -/
namespace Rv
open PySem PySem.Spec PyProof.Rows L2
/-! tuples put together -/
section
variable {H : Hp} {K : PySem.W.Frag} {Q : VK} {a b : Addr} {xs ys : List V} {lo hi : Option Int}
end
/-! images that may be wrong -/
/-! anchors -/
def KeptB (es fs : List Int) (b : Nat) (x : Int) : Prop := es.getD b 0 = x ∧ fs.getD b 0 = x
instance (es fs : List Int) (b : Nat) (x : Int) : Decidable (KeptB es fs b x) := inferInstanceAs (Decidable (_ ∧ _))
/-- the least of the first blocks that is kept and holds x -/
def fk (es fs : List Int) (x : Int) : Nat → Int
  | 0 => -1
  | k + 1 => if 0 ≤ fk es fs x k then fk es fs x k else if KeptB es fs k x then (k : Int) else -1
section
variable {es fs : List Int} {x : Int}
/-- the dict of the kept ones -/
structure Kp (es fs : List Int) (i : Nat) (kvs : List (Key × V)) : Prop where
  len : kvs.length ≤ i
  val : ∀ x : Int, valV kvs (Sum.inl x) = if x < 0 ∨ fk es fs x i < 0 then none else some (.int (fk es fs x i))
end
/-! the lines -/
def chg (es fs : List Int) (n : Nat) : List Nat := (List.range n).filter fun b => !decide (es.getD b 0 = fs.getD b 0)
/-- the first m of the blocks that change have changed -/
structure Half (es fs hs : List Int) (m : Nat) : Prop where
  len : hs.length = fs.length
  at_ : ∀ b, b < fs.length → hs.getD b 0 = if b ∈ (chg es fs fs.length).take m then fs.getD b 0 else es.getD b 0
section
variable {es fs hs : List Int} {m : Nat}
end
end Rv
namespace Rv
open PySem PySem.Spec PyProof.Rows L2
section
variable {σ : L2.St} {H : Hp} {K : PySem.W.Frag} {p : Addr} {xs : List V} {QB : Bool → Hp → Prop} {Q : VK}
end
end Rv
namespace Rv
open PySem PySem.Spec PyProof.Rows L2
/-- // by a positive divisor of some length -/
def CDivV (_ j : Int) : Prop := 0 < j ∧ j ≤ 10 ^ 30
theorem op_fdivV {X : Cx} : OpR X (binaryOp .FloorDiv) (rI CDivV fun i j => .int (i.fdiv j)) := opI fun _ j _ _ _ _ _ hc q => by
  obtain ⟨h0, h1⟩ := hc
  refine floordiv_int (by omega) q (.inl (PyProof.noPylong_of_log2 ?_))
  have z : j.natAbs < 2 ^ 100 := by omega
  have y := (Nat.log2_lt (n := j.natAbs) (k := 100) (by omega)).mpr z
  omega
end Rv
/-! list(zip(a, b)) of two tuples: the pairs stand in the list, so each turn makes a new one -/
namespace Rv
open PySem PySem.Spec PyProof.Rows L2 RZ
section
variable {prog : Program} {w : World} {A : Around} {E : Value → Shared → Prop} {s : Shared}
end
section
variable {X : Cx} {pins : List (Addr × Obj)} {σ : L2.St} {A1 : Around} {a b q z TI TO i1 i2 : Addr} {xs ys : List V} {H0 : Hp} {Rs : Result → Shared → Prop}
end
section
variable {X : Cx}
end
end Rv
/-! t.count(k), min(t) of a tuple of whole numbers; xs.remove(k) that finds k; a tuple that is spread into a tuple or a call -/
namespace Rv
open PySem PySem.Spec PyProof.Rows L2
section
variable {X : Cx}
def rCntT (K : PySem.W.Frag) : V → List V → Hp → VK → Prop := fun x xs H Q => ∃ (p : Addr) (ns : List Int) (k : Int), x = .ref p ∧ xs = [.int k] ∧ SqT K H p (ns.map V.int) ∧ Q (.int (ns.count k : Nat)) H
theorem cnt_eq (ns : List Int) (k : Int) : ns.countP (fun y => decide (y = k)) = ns.count k := by
  unfold List.count
  congr 1
theorem mt_tcount (hu : X.A.units + 64 < cLine) : MtR X "tuple.count" (rCntT X.K) := by
  intro pins s σ H x xs v us Q I rx rxs h
  obtain ⟨p, ns, k, rfl, rfl, hs, q⟩ := h
  cases rx
  obtain ⟨u, rfl, ru⟩ := rxs.one
  obtain ⟨t, rfl⟩ := ru
  obtain ⟨its, rv, tp, _⟩ := I.tuple hs
  have hi := ints_of_vals rv
  refine PySem.W.count_tuple_datum (show s.heap.IsTuple p its.toArray from tp) (xs := ns) (x := k) (by rw [List.toList_toArray]; exact PySem.W.HoldAll.of_ints hi) (PySem.W.holds_int k t) (by show X.A.units + 1 + 0 < cLine; omega) ?_
  rw [cnt_eq]
  exact ⟨.int (ns.count k : Nat), H, I.tok _, ⟨_, rfl⟩, q⟩
theorem min_fold : ∀ (xs : List Int) (x : Int), (xs.foldl (fun a y => if PySem.W.DatumOrd.lt y a = true then y else a) x ∈ x :: xs) ∧ ∀ y ∈ x :: xs, xs.foldl (fun a y => if PySem.W.DatumOrd.lt y a = true then y else a) x ≤ y := by
  intro xs
  induction xs with
  | nil => exact fun x => ⟨List.mem_cons_self .., fun y hy => by rw [List.mem_singleton.mp hy]; exact Int.le_refl _⟩
  | cons z r ih =>
    intro x
    rw [List.foldl_cons]
    have lt : PySem.W.DatumOrd.lt z x = decide (z < x) := rfl
    obtain ⟨h1, h2⟩ := ih (if PySem.W.DatumOrd.lt z x = true then z else x)
    generalize List.foldl (fun a y => if PySem.W.DatumOrd.lt y a = true then y else a) (if PySem.W.DatumOrd.lt z x = true then z else x) r = m at h1 h2
    rw [lt] at h1 h2
    by_cases c : z < x
    · rw [decide_eq_true c, if_pos rfl] at h1 h2
      refine ⟨List.mem_cons_of_mem _ h1, fun y hy => ?_⟩
      rcases List.mem_cons.mp hy with e | hy
      · have := h2 z (List.mem_cons_self ..)
        omega
      · exact h2 y hy
    · rw [decide_eq_false c, if_neg (by decide)] at h1 h2
      refine ⟨?_, fun y hy => ?_⟩
      · rcases List.mem_cons.mp h1 with e | e
        · rw [e]; exact List.mem_cons_self ..
        · exact List.mem_cons_of_mem _ (List.mem_cons_of_mem _ e)
      · rcases List.mem_cons.mp hy with e | hy
        · rw [e]; exact h2 x (List.mem_cons_self ..)
        · rcases List.mem_cons.mp hy with e | hy
          · have := h2 x (List.mem_cons_self ..)
            omega
          · exact h2 y (List.mem_cons_of_mem _ hy)
def rMinT : List V → Hp → VK → Prop := fun vs H Q => ∃ (a : Addr) (ns : List Int), vs = [V.ref a] ∧ H a = some (.tup (ns.map V.int)) ∧ 0 < ns.length ∧ ∀ m, m ∈ ns → (∀ y, y ∈ ns → m ≤ y) → Q (.int m) H
theorem cr_minT (hc : X.calm = true) (hu : X.A.units + 64 < cLine) : CallR X (.builtin "min") rMinT := by
  intro pins s σ H vs us Q I r h
  obtain ⟨a, ns, rfl, hs, hne, q⟩ := h
  obtain ⟨its, rv, tp, _⟩ := I.tuple (show SqT X.K H a _ from .of hs)
  rw [Vals.ref1 r]
  have hi := ints_of_vals rv
  cases ns with
  | nil => exact absurd hne (Nat.lt_irrefl 0)
  | cons x xs =>
    refine PySem.W.min_tuple_datum (I.ok.hd hc) (show s.heap.IsTuple a its.toArray from tp) (x := x) (xs := xs) (by rw [List.toList_toArray]; exact PySem.W.HoldAll.of_ints hi) (by show X.A.units + 1 + 0 < cLine; omega) fun i v h' tk hv hh hk => ?_
    obtain ⟨h1, h2⟩ := min_fold xs x
    obtain ⟨as, hr⟩ := hh
    have ev : ∃ t, v = .int (PySem.W.minOf x xs) t := by
      generalize hg : (PySem.W.Datum.toD (PySem.W.minOf x xs) : PyData) = d at hr
      have hg' : PyData.int (PySem.W.minOf x xs) = d := hg
      subst hg'
      cases hr with
      | int n t => exact ⟨t, rfl⟩
    obtain ⟨t, rfl⟩ := ev
    exact ⟨.int _, H, I.kept hk, ⟨t, rfl⟩, q _ h1 h2⟩
end
end Rv
/-! rings of a goal, the log over a spare block, and how the rest is spread -/
namespace RL
/-- different numbers below n are at most n -/
theorem nd_len : ∀ (n : Nat) (p : List Nat), p.Nodup → (∀ x ∈ p, x < n) → p.length ≤ n := by
  intro n
  induction n with
  | zero =>
    intro p _ h
    cases p with
    | nil => exact Nat.le_refl _
    | cons x r => exact absurd (h x (List.mem_cons_self ..)) (Nat.not_lt_zero _)
  | succ n ih =>
    intro p nd h
    by_cases k : n ∈ p
    · have e := List.length_erase_of_mem k
      have := ih (p.erase n) (nd.erase n) fun x hx => by
        have h1 := h x (List.mem_of_mem_erase hx)
        have h2 : x ≠ n := fun z => by rw [z] at hx; exact absurd hx (nd.not_mem_erase)
        omega
      have : 0 < p.length := List.length_pos_of_mem k
      omega
    · have := ih p nd fun x hx => by
        have h1 := h x hx
        have h2 : x ≠ n := fun z => k (z ▸ hx)
        omega
      omega
theorem nd_inj {p : List Nat} (nd : p.Nodup) {i j x : Nat} (hi : p[i]? = some x) (hj : p[j]? = some x) : i = j := by
  obtain ⟨l1, e1⟩ := List.getElem?_eq_some_iff.mp hi
  obtain ⟨l2, e2⟩ := List.getElem?_eq_some_iff.mp hj
  have pw := List.pairwise_iff_getElem.mp nd
  rcases Nat.lt_trichotomy i j with h | h | h
  · exact absurd (e1.trans e2.symm) (pw i j l1 l2 h)
  · exact h
  · exact absurd (e2.trans e1.symm) (pw j i l2 l1 h)
variable {g : Nat → Nat} {n : Nat}
def fol (g : Nat → Nat) : Nat → List Nat → List Nat
  | 0, p => p
  | k + 1, p => if g (p.getLastD 0) ∈ p then p else fol g k (p ++ [g (p.getLastD 0)])
structure Pth (g : Nat → Nat) (n b : Nat) (p : List Nat) : Prop where
  hd : p[0]? = some b
  nd : p.Nodup
  lt : ∀ x ∈ p, x < n
  st : ∀ i x y, p[i]? = some x → p[i + 1]? = some y → y = g x
theorem Pth.start {b : Nat} (h : b < n) : Pth g n b [b] := ⟨rfl, by simp, fun x hx => by rw [List.mem_singleton.mp hx]; exact h, fun i x y _ h2 => by simp at h2⟩
theorem Pth.ne {b : Nat} {p : List Nat} (P : Pth g n b p) : p ≠ [] := fun e => by have := P.hd; rw [e] at this; cases this
theorem last_at {p : List Nat} (h : p ≠ []) : p[p.length - 1]? = some (p.getLastD 0) := by
  rw [List.getLastD_eq_getLast?, List.getLast?_eq_getElem?]
  cases p with
  | nil => exact absurd rfl h
  | cons x r =>
    rw [List.getElem?_eq_getElem (by rw [List.length_cons]; omega)]
    rfl
theorem last_mem {p : List Nat} (h : p ≠ []) : p.getLastD 0 ∈ p := List.mem_of_getElem? (last_at h)
theorem Pth.next {b : Nat} {p : List Nat} (P : Pth g n b p) (h : g (p.getLastD 0) ∉ p) (hl : g (p.getLastD 0) < n) : Pth g n b (p ++ [g (p.getLastD 0)]) := by
  have hp : 0 < p.length := List.length_pos_iff.mpr P.ne
  refine ⟨by rw [List.getElem?_append_left hp]; exact P.hd, ?_, fun x hx => ?_, fun i x y h1 h2 => ?_⟩
  · rw [List.nodup_append]
    exact ⟨P.nd, by simp, fun a ha b hb => by rw [List.mem_singleton.mp hb]; exact fun z => h (z ▸ ha)⟩
  · rcases List.mem_append.mp hx with k | k
    · exact P.lt x k
    · rw [List.mem_singleton.mp k]; exact hl
  · have h3 := (List.getElem?_eq_some_iff.mp h2).1
    rw [List.length_append, List.length_singleton] at h3
    rw [List.getElem?_append_left (by omega)] at h1
    by_cases k : i + 1 < p.length
    · rw [List.getElem?_append_left k] at h2
      exact P.st i x y h1 h2
    · have e : i = p.length - 1 := by omega
      rw [List.getElem?_append_right (by omega), show i + 1 - p.length = 0 by omega] at h2
      rw [e, last_at P.ne] at h1
      cases h1
      cases h2
      rfl
theorem Pth.len {b : Nat} {p : List Nat} (P : Pth g n b p) : p.length ≤ n := nd_len n p P.nd P.lt
theorem fol_stop {p : List Nat} (h : g (p.getLastD 0) ∈ p) : ∀ k, fol g k p = p
  | 0 => rfl
  | k + 1 => if_pos h
theorem fol_step {p : List Nat} (h : g (p.getLastD 0) ∉ p) (k : Nat) : fol g (k + 1) p = fol g k (p ++ [g (p.getLastD 0)]) := if_neg h
/-- the way from a block ends where it comes back to itself -/
theorem fol_end (hg : ∀ b, b < n → g b < n) {b : Nat} : ∀ k p, Pth g n b p → p.length + k = n + 1 → Pth g n b (fol g k p) ∧ g ((fol g k p).getLastD 0) ∈ fol g k p := by
  intro k
  induction k with
  | zero =>
    intro p P hl
    have := P.len
    omega
  | succ k ih =>
    intro p P hl
    by_cases h : g (p.getLastD 0) ∈ p
    · rw [fol_stop h]; exact ⟨P, h⟩
    · rw [fol_step h]
      exact ih _ (P.next h (hg _ (P.lt _ (last_mem P.ne)))) (by rw [List.length_append, List.length_singleton]; omega)
def F (g : Nat → Nat) (n b : Nat) : List Nat := fol g n [b]
theorem F_end (hg : ∀ b, b < n → g b < n) {b : Nat} (hb : b < n) : Pth g n b (F g n b) ∧ g ((F g n b).getLastD 0) ∈ F g n b := fol_end hg n [b] (.start hb) (by rw [List.length_singleton]; omega)
def IsR (g : Nat → Nat) (p : List Nat) : Prop := 1 < p.length ∧ g (p.getLastD 0) = p.headD 0 ∧ ∀ x ∈ p, p.headD 0 ≤ x
instance {g : Nat → Nat} {p : List Nat} : Decidable (IsR g p) := by unfold IsR; exact inferInstance
theorem Pth.headD {b : Nat} {p : List Nat} (P : Pth g n b p) : p.headD 0 = b := by
  have h := P.hd
  cases p with
  | nil => cases h
  | cons x r => exact Option.some.inj h
/-! counts -/
/-! the goal -/
structure GOk (gs : List Int) : Prop where
  l1 : 1 ≤ gs.length
  l12 : gs.length ≤ 12
  en : ∀ e ∈ gs, 0 ≤ e ∧ e < gs.length
def gn (gs : List Int) (b : Nat) : Nat := (gs.getD b 0).toNat
variable {gs : List Int}
def One (gs : List Int) (p : List Nat) : Prop := ∀ b ∈ p, gs.count (b : Int) = 1
instance {gs : List Int} {p : List Nat} : Decidable (One gs p) := by unfold One; exact inferInstance
def ways (gs : List Int) (i : Nat) : List (List Nat) := (List.range i).map (F (gn gs) gs.length)
def rgs (gs : List Int) (i : Nat) : List (List Nat) := (ways gs i).filter fun p => decide (IsR (gn gs) p)
def clo (gs : List Int) (i : Nat) : List (List Nat) := (rgs gs i).filter fun p => decide (One gs p)
abbrev clos (gs : List Int) : List (List Nat) := clo gs gs.length
abbrev inr (gs : List Int) : List Nat := (clos gs).flatten
def mov (gs : List Int) (i : Nat) : List Nat := (List.range i).filter fun b => decide (gn gs b ≠ b)
def rst (gs : List Int) : List Nat := (mov gs gs.length).filter fun b => decide (b ∉ inr gs)
/-! what a log of pairs (target, source) does -/
def ap (c : Nat → Nat) (q : Nat × Nat) : Nat → Nat := fun b => if b = q.1 then c q.2 else c b
def run (c : Nat → Nat) (qs : List (Nat × Nat)) : Nat → Nat := qs.foldl ap c
/-- the pairs of a way, its end from s -/
def tp : Nat → List Nat → Nat → List (Nat × Nat)
  | a, [], s => [(a, s)]
  | a, x :: r, s => (a, x) :: tp x r s
def VP (n : Nat) (q : Nat × Nat) : Prop := q.1 < n ∧ q.2 < n ∧ q.1 ≠ q.2
/-! the rest is spread -/
def rows0 (gs : List Int) (s : Nat) : List (Nat × Nat) := (clos gs).flatMap fun p => tp s p s
def c0 (gs : List Int) (s : Nat) : Nat → Nat := run id (rows0 gs s)
structure Sp (gs : List Int) (s : Nat) (W : List Nat) (h : Nat → Nat) (T : List (Nat × Nat)) : Prop where
  nd : W.Nodup
  sub : ∀ b ∈ W, b ∈ rst gs
  don : ∀ b ∈ rst gs, b ∉ W → run (c0 gs s) T b = gn gs b
  oth : ∀ b, b < gs.length → b ∉ rst gs → run (c0 gs s) T b = gn gs b
  hol : ∀ b ∈ W, run (c0 gs s) T (h (gn gs b)) = gn gs b
  hom : ∀ v, v < gs.length → h v = v ∨ (h v ∈ rst gs ∧ h v ∉ W)
  prc : ∀ b ∈ rst gs, b ∉ W → h (gn gs b) ∈ rst gs ∧ h (gn gs b) ∉ W
  len : T.length + W.length = (rst gs).length
  val : ∀ q ∈ T, VP gs.length q
end RL
/-! own error classes without fields; readings of the steps of Nw and Nx -/
namespace Rv
open PySem PySem.Spec PyProof.Rows L2
abbrev vBase : List Value := [.type "ValueError", .type "Exception", .type "BaseException", .type "object"]
/-- an error class without a maker of its own -/
structure Err0 (K : PySem.W.Frag) (mg : Str → Option Value) (C : Addr) (x : Str) : Prop where
  gC : mg x = some (.ref C)
  q : PySem.W.excIn K C vBase "ValueError.__new__" = true
  kC : PySem.W.keepIn K (.ref C) = true
  bC : PySem.W.subIn K (.ref C) (.type "BaseException") = some true
  tC : PySem.W.typeIn K (.ref C) = some (.type "type")
  ec : ExcC K C
  icl : PySem.W.isClsIn K C = true
section
variable {X : Cx} {C : Addr} {bmB : List Value} {B newId initId : String}
theorem pmk_own0 {x : Str} {p pos : Pos} (F : ExcBaseFacts B newId initId bmB) (q : PySem.W.excIn X.K C bmB newId = true) (gC : X.mg x = some (.ref C)) (kC : PySem.W.keepIn X.K (.ref C) = true) (r : Raises X (.ref C)) (hg : Gl X x)
    (hdb : (x == ("__debug__" : Str)) = false := by decide) : PMk X (.Call (.Name x p) [] [] pos) (fun _ H Q => Q (.ref C) none H) := by
  intro pins s σ H Q I h
  refine wpAny_Call_Name_kw (ld_glob I hg gC (PySem.W.callWith_K0 I.kIn kC ?_) hdb)
  show wpAny _ _ (call (.ref C) []) _ _ _
  obtain ⟨bm, N, nm, qn, bs, hdct, sn, sub, ab, col, dd, k0, k1, k2, k3, k5, mN, hC, hN, hni, T⟩ := exc_obj I.kIn q
  refine wpAny_call_exc_subT F T hC hN hni (fun h' e hm => ?_) (by show 0 ≤ sizeLine; exact Nat.zero_le _)
  exact mk_of I hm r h (I.hok.gone hm.new)
end
section
variable {X : Cx} {K : PySem.W.Frag} {o e : Expr} {to te : TE} {apos cpos : Pos}
/-- a tuple of whole numbers whose object has no dict -/
def GT (H : Hp) (a : Addr) (gs : List Int) : Prop := ∃ o : Obj, H a = some (.frz o (.tup (gs.map V.int))) ∧ o.dict = none
theorem GT.sq {H : Hp} {a : Addr} {gs : List Int} (g : GT H a gs) : SqT K H a (gs.map V.int) := by
  obtain ⟨o, h, _⟩ := g
  exact .inl (.inr ⟨o, h⟩)
theorem GT.same {H H' : Hp} {a : Addr} {gs : List Int} (g : GT H a gs) (S : Same H H') : GT H' a gs := by
  obtain ⟨o, h, d⟩ := g
  exact ⟨o, S _ _ h, d⟩
theorem GT.mut {H : Hp} {a b : Addr} {gs : List Int} {xs : List V} {u : HO} (g : GT H a gs) (h : H b = some (.lst xs)) : GT (upd H b u) a gs := by
  obtain ⟨o, e, d⟩ := g
  refine ⟨o, ?_, d⟩
  rw [upd_ne (ne_of e h (by intro z; cases z))]
  exact e
def tTc (to te : TE) : TE := fun σ H Q => to σ H fun x H1 => ∃ p ns, x = .ref p ∧ GT H1 p ns ∧ te σ H1 fun y H2 => ∃ k, [y] = [V.int k] ∧ GT H2 p ns ∧ Q (.int (ns.count k : Nat)) H2
theorem pe_tcnt (hu : X.A.units + 64 < cLine) (ho : PE X o to) (he : PE X e te)
    (h1 : attributeBase o "count" X.env (eval o X.env) = eval o X.env := by rfl)
    (h2 : ((backTo cpos (starEach [e] X.env)).all (fun x => !x.1) && (backToKw cpos (keywordEach [] X.env)).all (fun x => x.1.isSome)
      && decide ([e].length + ([] : List Keyword).length + (if ([] : List Keyword).isEmpty then 0 else 1) < 30)) = true := by rfl)
    (h3 : (apos.endLine == cpos.line) = true := by rfl) (h4 : starEach [e] X.env = (false, eval e X.env) :: starEach [] X.env := by rfl) (h5 : (backTo cpos (starEach [] X.env)).any (·.1) = false := by rfl) :
    PE X (.Call (.Attribute o "count" apos) [e] [] cpos) (tTc to te) := by
  refine ⟨fun pins s σ H Q I h => ?_⟩
  refine wpAny_Call_method_late h1 h2 h3 rfl (thn (ho.run pins s σ H _ I h) fun v s1 ⟨x, H1, I1, r1, p, ns, ex, gp, q1⟩ => ?_)
  subst ex
  cases r1
  obtain ⟨ob, hb, hd⟩ := id gp
  obtain ⟨ho1, _, its, rv, o2, ho2, hc2, n2, hd2⟩ := (show ObjOk X.prog X.w H1 s1.heap p (.frz ob (.tup (ns.map V.int))) from I1.hok p _ hb)
  rw [ho1] at ho2
  cases ho2
  refine ⟨"tuple", _, PySem.F.plainAttrs_tuple, PySem.F.slot_tuple_count, PySem.F.type_tuple_count, ⟨_, ho1, hc2⟩, fun a ea => by cases ea; exact ⟨_, ho1, hd⟩, ?_⟩
  have ha : PA X [e] (tCons te tNil) := pa_cons he pa_nil (hs := h4)
  have hA := ha.run cpos pins s1 σ H1 (fun vs H2 => ∃ k, vs = [.int k] ∧ GT H2 p ns ∧ Q (.int (ns.count k : Nat)) H2) I1 q1
  rw [h4] at hA ⊢
  refine Calls.callWith_builtin (by show (false || (backTo cpos (starEach [] X.env)).any (·.1)) = false; rw [h5] <;> rfl) (Calls.evalArgs_plain ?_)
  exact thn hA fun us s2 ⟨vs, H2, I2, r2, k, ev, g2, q2⟩ => mt_tcount hu pins s2 σ H2 (.ref p) vs (.ref p) us Q I2 rfl r2 ⟨p, ns, k, rfl, ev, g2.sq, q2⟩
end
/-- tuple(list): the object is known -/
def rTupF (K : PySem.W.Frag) : List V → Hp → VK → Prop := fun xs H Q => ∃ (p : Addr) (ns : List Int), xs = [.ref p] ∧ SqL K H p (ns.map V.int) ∧ ∀ l (o : Obj), H l = none → o.dict = none → Q (.ref l) (upd H l (.frz o (.tup (ns.map V.int))))
theorem call_tupF {X : Cx} : CallR X (.type "tuple") (rTupF X.K) := by
  intro pins s σ H xs us Q I r h
  obtain ⟨p, ns, rfl, hq, q⟩ := h
  rw [Vals.ref1 r]
  obtain ⟨its, r', pl, hz⟩ := I.list hq
  have hlen := r'.length
  refine call_tuple_list pl.isList (fun h' kp => ?_) (by simp only [List.size_toArray] <;> omega)
  have I1 : Inv X pins σ H { s with heap := h' } := I.kept (t' := s.toks) kp
  have I2 := I1.laid (t' := s.toks) (h' := h'.push { cls := .type "tuple", data := .seq its.toArray }) (a := h'.objs.size) (o := .frz { cls := .type "tuple", data := .seq its.toArray } (.tup (ns.map V.int))) (fun b o e => Heap.get?_push_of_some _ e) (Nat.le_refl _)
    (show ObjOk X.prog X.w _ _ _ (.frz { cls := .type "tuple", data := .seq its.toArray } (.tup (ns.map V.int))) from ⟨Heap.get?_push_size _ rfl, hz, its, r', IsTup.new _ _⟩)
  exact ⟨.ref h'.objs.size, _, I2, rfl, q _ _ (I1.hok.fresh (Nat.le_refl _)) rfl⟩
def rIsG : List V → Hp → VK → Prop := fun vs H Q => ∃ (a : Addr) (gs : List Int), vs = [.ref a, .ty "tuple"] ∧ GT H a gs ∧ Q (.bl true) H
theorem call_isG {X : Cx} : CallR X (.builtin "isinstance") rIsG := by
  intro pins s σ H xs us Q I r h
  obtain ⟨a, gs, rfl, ⟨o, ha, hd⟩, q⟩ := h
  cases r with
  | cons rx rr =>
    cases rr with
    | cons rt rr =>
      cases rr
      cases rx
      cases rt
      obtain ⟨h1, _, its, rv, o2, h2, h3, n2, h4⟩ := (show ObjOk X.prog X.w H s.heap a (.frz o (.tup (gs.map V.int))) from I.hok a _ ha)
      exact PySem.W.kia_one PySem.W.kitx_tuple I.kIn ⟨o2, h2, h3⟩ (kit_ty (K := X.K) (show kitB "tuple" "tuple" = some true by decide +kernel)) (fun z => nomatch z) fun tk => ⟨.bl true, H, I.kept (t' := tk) fun _ _ z => z, rfl, q⟩
theorem feed_tupG {P : Program} {w : World} {K : PySem.W.Frag} (it a : Addr) (o : Obj) (xs : List V) :
    Feed P w K it xs.length (fun H => H a = some (.frz o (.tup xs))) (fun i => xs[i]?) (fun i h => h.IsTupleIter it a i) where
  cell := fun i h q => by
    obtain ⟨ob, e1, e2, e3⟩ := q
    refine ⟨ob, e1, fun v z => ?_⟩
    rw [e3] at z
    cases z
  stay := fun i h1 h2 q k => by
    obtain ⟨ob, e1, e2⟩ := q
    exact ⟨ob, k ob e1, e2⟩
  feed := fun X hP hw hK hc pins σ H s I hg hn => by
    obtain ⟨its, rv, hT, _⟩ := I.tuple (show SqT X.K H a xs from .inl (.inr ⟨o, hg⟩))
    have hl : its.toArray.size = xs.length := by
      rw [List.size_toArray]
      exact rv.length.symm
    have nai : a ≠ it := ne_of_none hg hn
    have D := Draws.tuple (prog := X.prog) (w := X.w) (A := X.A.in1) (show X.A.in1.handled = none from I.ok.hd hc) it a nai its.toArray
    rw [hl] at D
    refine ⟨[it, a], _, _, D, fun _ _ q => q.1, fun _ q => ⟨q, hT⟩, fun i u q => ?_, fun b hb hbn hm => ?_⟩
    · have q2 : its[i]? = some u := by simpa using q
      have hi : i < xs.length := by
        have := (List.getElem?_eq_some_iff.mp q2).1
        rw [rv.length]
        exact this
      obtain ⟨u', e1, r1⟩ := rv.get (List.getElem?_eq_getElem hi)
      rw [q2] at e1
      cases e1
      exact ⟨xs[i], r1, List.getElem?_eq_getElem hi⟩
    · rcases List.mem_cons.mp hm with z | z
      · exact hb z
      · have z2 : b = a := by simpa using z
        rw [z2, hg] at hbn
        cases hbn
section
variable {K : PySem.W.Frag} {σ : L2.St} {H : Hp} {Q : VK} {p : Addr} {gs : List Int} {R : It → Hp → Prop}
theorem rd_isG (g : GT H p gs) (q : Q (.bl true) H) : rIsG [.ref p, .ty "tuple"] H Q := ⟨p, gs, rfl, g, q⟩
theorem rd_ninG {x : V} (g : GT H p gs) (fx : flatV x = true) (fs : (gs.map V.int).all flatV = true) (q : Q (.bl (!inV x (gs.map V.int))) H) : rIn K true x (.ref p) H Q := ⟨p, _, rfl, .inr g.sq, fx, fs, q⟩
theorem rd_tupF (h : H p = some (.lst (gs.map V.int))) (q : ∀ H2 l, Same H H2 → H l = none → GT H2 l gs → Q (.ref l) H2) : rTupF K [.ref p] H Q :=
  ⟨p, gs, rfl, .of h, fun l o nl d => q _ l (same_new (Same.refl _) nl) nl ⟨o, upd_same, d⟩⟩
end
section
variable {K : PySem.W.Frag} {σ : L2.St} {H : Hp} {Q : VK}
theorem rd_minT {a : Addr} {ns : List Int} (h : H a = some (.tup (ns.map V.int))) (l : 0 < ns.length) (q : ∀ m, m ∈ ns → (∀ y, y ∈ ns → m ≤ y) → Q (.int m) H) : rMinT [.ref a] H Q := ⟨a, ns, rfl, h, l, q⟩
end
open RL
def niz (l : List Nat) : List Int := l.map fun b : Nat => (b : Int)
def nvs (l : List Nat) : List V := (niz l).map V.int
theorem niz_len (l : List Nat) : (niz l).length = l.length := List.length_map ..
theorem nvs_len (l : List Nat) : (nvs l).length = l.length := by unfold nvs; rw [List.length_map, niz_len]
theorem mem_niz {b : Nat} {l : List Nat} : (b : Int) ∈ niz l ↔ b ∈ l := by
  unfold niz
  rw [List.mem_map]
  exact ⟨fun ⟨x, hx, e⟩ => (Int.ofNat.inj e) ▸ hx, fun h => ⟨b, h, rfl⟩⟩
theorem niz_of {k : Int} {l : List Nat} (h : k ∈ niz l) : ∃ b : Nat, k = (b : Int) ∧ b ∈ l := by
  obtain ⟨b, hb, e⟩ := List.mem_map.mp h
  exact ⟨b, e.symm, hb⟩
theorem nvs_app (a b : List Nat) : nvs (a ++ b) = nvs a ++ nvs b := by unfold nvs niz; rw [List.map_append, List.map_append]
theorem nvs_get {l : List Nat} {i b : Nat} (h : l[i]? = some b) : (nvs l)[i]? = some (V.int (b : Int)) := by unfold nvs niz; rw [List.getElem?_map, List.getElem?_map, h]; rfl
theorem nvs_atI {l : List Nat} {i b : Nat} (h : l[i]? = some b) : atI (nvs l) (i : Int) = some (V.int (b : Int)) := atI_nat (nvs_get h)
theorem nvs_last {l : List Nat} (h : l ≠ []) : atI (nvs l) (-1) = some (V.int ((l.getLastD 0 : Nat) : Int)) := by
  have hl : 0 < l.length := List.length_pos_iff.mpr h
  have e := nvs_get (last_at h)
  have hn := nvs_len l
  unfold atI ixN
  rw [hn, if_neg (by decide), if_pos (by omega)]
  show (nvs l)[((-1 : Int) + ((l.length : Nat) : Int)).toNat]? = _
  rw [show ((-1 : Int) + ((l.length : Nat) : Int)).toNat = l.length - 1 by omega]
  exact e
theorem nvs_in {b : Nat} {l : List Nat} : inV (V.int (b : Int)) (nvs l) = decide (b ∈ l) := by
  unfold nvs
  rw [inV_ints]
  by_cases h : b ∈ l
  · rw [decide_eq_true h, decide_eq_true (mem_niz.mpr h)]
  · rw [decide_eq_false h, decide_eq_false (fun z => h (mem_niz.mp z))]
theorem nvs_flat (l : List Nat) : (nvs l).all flatV = true := by
  unfold nvs
  rw [List.all_eq_true]
  intro x hx
  obtain ⟨k, _, rfl⟩ := List.mem_map.mp hx
  rfl
theorem ints_flat (l : List Int) : (l.map V.int).all flatV = true := by
  rw [List.all_eq_true]
  intro x hx
  obtain ⟨k, _, rfl⟩ := List.mem_map.mp hx
  rfl
/-- rows of block numbers -/
abbrev NRows (H : Hp) (bs : List Addr) (ps : List (List Nat)) : Prop := TupsAt H bs (ps.map nvs)
theorem NRows.len {H : Hp} {bs : List Addr} {ps : List (List Nat)} (t : NRows H bs ps) : bs.length = ps.length := by rw [t.1, List.length_map]
theorem NRows.kt {H H' : Hp} {bs : List Addr} {ps : List (List Nat)} (t : NRows H bs ps) (k : Kt H H') : NRows H' bs ps := TupsAt.kt k t
theorem NRows.same {H H' : Hp} {bs : List Addr} {ps : List (List Nat)} (t : NRows H bs ps) (S : Same H H') : NRows H' bs ps := TupsAt.same S t
theorem NRows.snoc {H : Hp} {bs : List Addr} {ps : List (List Nat)} {a : Addr} {p : List Nat} (t : NRows H bs ps) (h : H a = some (.tup (nvs p))) : NRows H (bs ++ [a]) (ps ++ [p]) := by
  unfold NRows
  rw [List.map_append]
  exact TupsAt.app t h
theorem NRows.at {H : Hp} {bs : List Addr} {ps : List (List Nat)} (t : NRows H bs ps) {i : Nat} {p : List Nat} (h : ps[i]? = some p) : ∃ a, bs[i]? = some a ∧ H a = some (.tup (nvs p)) := t.2 i _ (by rw [List.getElem?_map, h]; rfl)
/-! a comprehension with two clauses over a list of tuples -/
end Rv
/-! no log of copies to a goal is shorter than the blocks that change and the closed rings together (for k34) -/
namespace RL
variable {gs : List Int}
end RL
/-! {t: v}, t a tuple -/
namespace Rv
open PySem PySem.Spec PyProof.Rows L2
section
variable {X : Cx} {k v : Expr} {tk tv : TE} {pos : Pos}
end
end Rv
/-! the search by breadth of k34: the least number of copies to each image -/
namespace RL
def Reach (n k : Nat) (im : List Nat) : Prop := ∃ qs : List (Nat × Nat), qs.length = k ∧ (∀ q ∈ qs, q.1 < n ∧ q.2 < n) ∧ im = (List.range n).map (run id qs)
theorem Reach.len {n k : Nat} {im : List Nat} (h : Reach n k im) : im.length = n := by
  obtain ⟨_, _, _, e⟩ := h
  rw [e, List.length_map, List.length_range]
/-! the least number of a goal -/
end RL
/-! a tuple that is known to have no dict as a key -/
namespace Rv
open PySem PySem.Spec PyProof.Rows L2
section
variable {X : Cx} {i o : Expr} {ty td : TE} {pos : Pos}
end
/-! t + u, empty ones too -/
end Rv
/-! the table of k34: images and numbers -/
namespace Rv
open PySem PySem.Spec PyProof.Rows L2 RL
end Rv
/-! the mathematics of k36: steps between images -/
namespace RS
open RL
/-! copies -/
/-! logs -/
/-! all images -/
end RS
/-! for k36: dicts of images, list(d), zip of two tuples, rows by two clauses -/
namespace Rv
open PySem PySem.Spec PyProof.Rows L2 RL RS
section
variable {H H' : Hp} {d b l : Addr} {ks : List (List Nat)} {x : List Nat} {Q : VK} {R : Hp → Prop} {v : V} {o : HO}
/-! list(d) -/
end
/-! zip of two tuples -/
section
variable {K : PySem.W.Frag} {σ : L2.St} {H : Hp} {a b : Addr} {xs ys : List V} {R : It → Hp → Prop}
end
/-! a comprehension over rows and numbers -/
end Rv
/-! for k36: equality of images, common places, filters, what a helper leaves -/
namespace Rv
open PySem PySem.Spec PyProof.Rows L2 RL RS
theorem eqv_intsT : ∀ (a b : List Int), PyData.eqv (.tuple (a.map PyData.int)) (.tuple (b.map PyData.int)) = decide (a = b)
  | [], [] => rfl
  | [], _ :: _ => rfl
  | _ :: _, [] => rfl
  | x :: r, y :: t => by
    have ih := eqv_intsT r t
    have e : PyData.eqv (.tuple ((x :: r).map PyData.int)) (.tuple ((y :: t).map PyData.int)) = (decide (x = y) && PyData.eqv (.tuple (r.map PyData.int)) (.tuple (t.map PyData.int))) := rfl
    rw [e, ih, Bool.eq_iff_iff, Bool.and_eq_true, decide_eq_true_eq, decide_eq_true_eq, decide_eq_true_eq, List.cons.injEq]
theorem shT (xs : List Int) : SeqAt.shaped (.tuple (xs.map PyData.int)) = true := by
  obtain ⟨a1, a2⟩ := lay_ints xs
  unfold SeqAt.shaped
  rw [Bool.and_eq_true]
  refine ⟨a1, decide_eq_true ?_⟩
  show PyData.depthAll (xs.map PyData.int) + 1 ≤ 64
  omega
/-! common places -/
/-! filters -/
/-! what a helper leaves that may change one list -/
end Rv
/-! own classes: facts, makers, methods, static methods, fields -/
namespace Rv
open PySem PySem.Spec PyProof.Rows L2
/-- its maker -/
structure IDef (K : PySem.W.Frag) (C : Addr) (qual : Str) (st : Stmt) (ps : List Str) (f : Addr) (fd : FuncData) : Prop where
  F : Fun K "__init__" qual st f fd
  b : Binds K fd ps []
  mkr : L2.Mk K C f
/-- a method -/
structure MDef (K : PySem.W.Frag) (C : Addr) (m qual : Str) (st : Stmt) (ps : List Str) (f : Addr) (fd : FuncData) : Prop where
  F : Fun K m qual st f fd
  b : Binds K fd ps []
  m : Meth K C m f
/-- a static method -/
structure SMet (K : PySem.W.Frag) (C : Addr) (m : Str) (p g : Addr) : Prop where
  ga : PySem.W.specialIn K (.ref C) "__getattribute__" = some (some (.builtin "type.__getattribute__"))
  rd : PySem.W.readsIn K C (.type "type") = true
  at_ : PySem.W.findCls K (.ref C) (.type "type") m = some (.get (.builtin "staticmethod.__get__") (.ref p) .none (.ref C))
  rc : ∃ rest, PySem.W.recIn K p "staticmethod" = some (.ref g :: rest)
  kp : PySem.W.keepIn K (.ref g) = true
structure SDef (K : PySem.W.Frag) (C : Addr) (m qual : Str) (st : Stmt) (ps : List Str) (f : Addr) (fd : FuncData) : Prop where
  F : Fun K m qual st f fd
  b : Binds K fd ps []
  s : ∃ p, SMet K C m p f
section
variable {X : Cx} {CX : CXT} {k : Nat} {f C p g : Addr} {fd : FuncData} {ps : List Str} {sp : Sp} {E : XK} {m : Str} {pos apos : Pos} {e o : Expr} {es : List Expr} {ta : TE} {t : TA} {pl : Sem Bool}
end
section
variable {K : PySem.W.Frag} {mg : Str → Option Value} {σ : L2.St} {H : Hp} {Q : VK} {C a dx : Addr} {fs : List (Str × V)} {f m : Str} {v : V} {sp : Sp} {E : XK} {ta tv : TE} {t : TA}
/-! readings -/
end
end Rv
/-! sorted(t), t a tuple of whole numbers -/
namespace Rv
open PySem PySem.Spec PyProof.Rows L2 PySem.Calls
section
variable {prog : Program} {w : World} {A : Around} {E : Value → Shared → Prop} {s : Shared}
theorem gatherT {tp : Addr} {us : List Value} {Q : List Value → Shared → Prop} (it : IsTup s.heap tp us.toArray) (few : us.length ≤ 1000)
    (k : Q us { s with heap := (s.heap.push (seqObj "list" #[] 0)).update s.heap.objs.size (Obj.mapSeq (· ++ us.toArray)) }) :
    wpAny (model prog w) A (collect (.ref tp)) Q E s := by
  obtain ⟨ob, hob, hcl, m, hda⟩ := id it
  have room : us.length ≤ sizeLine := Nat.le_of_lt (small1000 few)
  unfold collect
  refine wpAny_bind (wpAny_runValue (codeAny_builtin entry_proto_collect' ?_))
  show wpAny (model prog w) _ (do again (.builtin "list.__iadd__" ⟨[← newList [], .ref tp], []⟩)) _ _ s
  refine wpAny_bind (wpAny_newList (wpAny_pure ⟨Code.quiet_builtin _ (by decide +kernel), codeAny_builtin entry_list_iadd' ?_⟩))
  have hob2 : (s.heap.push (seqObj "list" #[] 0)).get? tp = some ob := Heap.get?_push_of_some _ hob
  show wpAny (model prog w) _ (Builtin.List.listExtendWith (.ref s.heap.objs.size) (.ref tp) (.ref s.heap.objs.size)) _ _ { s with heap := s.heap.push (seqObj "list" #[] 0) }
  unfold Builtin.List.listExtendWith
  have isT : (Value.type "tuple" == Value.type "tuple") = true := rfl
  refine wpAny_bind (wpAny_typeOf (T := "tuple") ⟨ob, hob2, hcl⟩ ?_)
  rw [if_pos (by rw [isT, Bool.or_true])]
  refine wpAny_bind (listItems_at hob2 hda ?_)
  refine wpAny_bind (listItems_at (n := 0) (xs := #[]) (Heap.get?_push_size _ rfl) rfl ?_)
  rw [if_neg (by simp)]
  have grow : ((#[] : Array Value) ++ us.toArray).size ≤ sizeLine + 1 := by simp only [Array.size_append, List.size_toArray, List.length_nil]; omega
  refine wpAny_bind (listUpdate_at (n := 0) (xs := #[]) (Heap.get?_push_size _ rfl) rfl ?_ (Nat.zero_le _) grow)
  refine wpAny_pure ?_
  have got := get?_update_seq (Heap.get?_push_size (o := seqObj "list" #[] 0) s.heap rfl) (· ++ us.toArray)
  show wpAny (model prog w) A (do
      let ob ← load s.heap.objs.size
      match ob.data with
      | .seq zs _ => pure zs.toList
      | _ => unsupported "internal:collect") Q E { s with heap := (s.heap.push (seqObj "list" #[] 0)).update s.heap.objs.size (Obj.mapSeq (· ++ us.toArray)) }
  refine wpAny_bind (wpAny_load (get?_update_seq (Heap.get?_push_size _ rfl) _) ?_)
  show wpAny (model prog w) A (pure ((#[] : Array Value) ++ us.toArray).toList) Q E _
  rw [show ((#[] : Array Value) ++ us.toArray).toList = us by simp]
  exact wpAny_pure k
theorem sortT {tp : Addr} {us : List Value} {ns : List Int} {Q : Value → Shared → Prop} (it : IsTup s.heap tp us.toArray) (num : IntsAre us ns) (few : us.length < 64)
    (k : ∀ (out : Array Value) (ms : List Int), IntsAre out.toList ms → ms.Perm ns → ms.Pairwise (· ≤ ·) → Q (.ref (s.heap.objs.size + 1)) { s with heap := sortedAll s.heap us out }) :
    wpAny (model prog w) A (call (.builtin "sorted") [.ref tp]) Q E s := by
  refine call_function_entry kind_sorted plain_sorted entry_sorted (args_sorted1 _) ?_
  unfold Builtin.«sorted»
  refine wpAny_bind (m := checkCount "sorted" 1 1 _) (wpAny_pure (wpAny_bind (gatherT it (by omega) (wpAny_bind (wpAny_newList ?_)))))
  have size1 : ((s.heap.push (seqObj "list" #[] 0)).update s.heap.objs.size (Obj.mapSeq (· ++ us.toArray))).objs.size = s.heap.objs.size + 1 := by
    rw [Heap.size_update, size_push']
  have at1 := Heap.get?_push_size ((s.heap.push (seqObj "list" #[] 0)).update s.heap.objs.size (Obj.mapSeq (· ++ us.toArray))) (o := seqObj "list" us.toArray 0) rfl
  rw [size1] at at1
  show wpAny (model prog w) _ _ _ _ { s with heap := ((s.heap.push (seqObj "list" #[] 0)).update s.heap.objs.size (Obj.mapSeq (· ++ us.toArray))).push (seqObj "list" us.toArray 0) }
  rw [size1]
  refine wpAny_bind (wpAny_holding (wpAny_call_entry slot_list_sort ⟨_, at1, rfl⟩ entry_list_sort (list_sort_tree at1 num few fun out ms b1 b2 b3 => ⟨_, rfl, ?_⟩) (args_list_sort _)))
  exact wpAny_pure ⟨_, rfl, k out ms b1 b2 b3⟩
end
end Rv
/-! the mathematics of k07: steps of Lagging, Workers, Machine -/
namespace RM
end RM
/-! for k07: how steps, specs and rules lie in the heap; a box of draws with two lists -/
namespace Rv
open PySem PySem.Spec PyProof.Rows L2 RM
/-! what never changes stays -/
section
variable {H H' H1 H2 : Hp} {p a : Addr} {o x : HO} {xs : List V} {gs : List Int} {B : Box}
end
/-! steps; a state is a tuple whose object is known -/
section
variable {K : PySem.W.Frag} {H H' : Hp} {p : Addr} {s : Stp} {ps qs : List Addr} {ss ts : List Stp}
end
/-! specs -/
/-! rules; M: what may change elsewhere -/
/-! the box: numbers, great ones, a great one that is used up, a count -/
section
variable {b c g : Addr} {ns gs : List Int} {n1 : b ≠ c} {n2 : g ≠ c} {n3 : b ≠ g} {H H' : Hp} {bu ct : Int}
end
end Rv
/-! t * 1 -/
namespace Rv
open PySem PySem.Spec PyProof.Rows L2
/-! tuples whose object is known -/
theorem laidG {X : Cx} {pins : List (Addr × Obj)} {σ : L2.St} {H : Hp} {s : Shared} {xs : List V} {its : List Value} (I : Inv X pins σ H s) (r : Vals xs its) (hz : xs.length ≤ sizeLine) (t : Nat) :
    Inv X pins σ (upd H s.heap.objs.size (.frz { cls := .type "tuple", data := .seq its.toArray } (.tup xs))) { s with heap := s.heap.push { cls := .type "tuple", data := .seq its.toArray }, toks := t } :=
  I.laid (t' := t) (o := .frz { cls := .type "tuple", data := .seq its.toArray } (.tup xs)) (fun b o e => Heap.get?_push_of_some _ e) (Nat.le_refl _)
    (show ObjOk X.prog X.w _ _ _ (.frz { cls := .type "tuple", data := .seq its.toArray } (.tup xs)) from ⟨Heap.get?_push_size _ rfl, hz, its, r, IsTup.new _ _⟩)
def NewG (xs : List V) (Q : VK) (H : Hp) : Prop := xs.length ≤ sizeLine ∧ ∀ (p : Addr) (o : Obj), H p = none → o.dict = none → Q (.ref p) (upd H p (.frz o (.tup xs)))
def tTupG (t : TA) : TE := fun σ H Q => t σ H fun xs H1 => NewG xs Q H1
theorem pe_tupG {X : Cx} {es : List Expr} {x1} {pos : Pos} {t : TA} (h : PA X es t) : PE X (.Tuple es x1 pos) (tTupG t) := by
  refine ⟨fun pins s σ H Q I hq => ?_⟩
  refine wpAny_Tuple_spliced (thn (h.run pos pins s σ H _ I hq) fun us s1 ⟨xs, H1, I1, r, z, q⟩ => ⟨by rw [← r.length]; exact z, ?_⟩)
  exact ⟨.ref s1.heap.objs.size, _, laidG I1 r z s1.toks, rfl, q _ _ (I1.hok.fresh (Nat.le_refl _)) rfl⟩
theorem rd_tupG {t : TA} {σ : L2.St} {H : Hp} {Q : VK} (q : t σ H fun xs H1 => NewG xs Q H1) : tTupG t σ H Q := q
theorem rd_newG {xs : List V} {H : Hp} {Q : VK} (ns : List Int) (e : xs = ns.map V.int) (l : ns.length ≤ 1000) (q : ∀ H2 p, Same H H2 → H p = none → GT H2 p ns → Q (.ref p) H2) : NewG xs Q H := by
  subst e
  exact ⟨by rw [List.length_map]; exact Nat.le_of_lt (small1000 l), fun p o np d => q _ p (same_new (Same.refl _) np) np ⟨o, upd_same, d⟩⟩
/-- t.index(k) -/
def tTix (to te : TE) : TE := fun σ H Q => to σ H fun x H1 => ∃ p ns, x = .ref p ∧ GT H1 p ns ∧ te σ H1 fun y H2 => ∃ k, [y] = [V.int k] ∧ GT H2 p ns ∧ k ∈ ns ∧ Q (.int (ns.idxOf k : Nat)) H2
def rTIxQ (K : PySem.W.Frag) : V → List V → Hp → VK → Prop := fun x xs H Q => ∃ (p : Addr) (ns : List Int) (k : Int), x = .ref p ∧ xs = [.int k] ∧ SqT K H p (ns.map V.int) ∧ k ∈ ns ∧ Q (.int (ns.idxOf k : Nat)) H
theorem mt_tIxQ {X : Cx} : MtR X "tuple.index" (rTIxQ X.K) := by
  intro pins s σ H x xs v us Q I rx rs h
  obtain ⟨p, ns, k, rfl, rfl, hs, hk, q⟩ := h
  cases rx
  obtain ⟨u, rfl, ru⟩ := rs.one
  obtain ⟨t, rfl⟩ := ru
  obtain ⟨its, rv, tp, _⟩ := I.tuple hs
  exact PySem.SeqAt.tuple_index_ints (show s.heap.IsTuple p its.toArray from tp) (ints_of_vals rv) hk ⟨.int (ns.idxOf k : Nat), H, I.tok _, ⟨_, rfl⟩, q⟩
theorem pe_tix {X : Cx} {o e : Expr} {to te : TE} {apos cpos : Pos} (ho : PE X o to) (he : PE X e te)
    (h1 : attributeBase o "index" X.env (eval o X.env) = eval o X.env := by rfl)
    (h2 : ((backTo cpos (starEach [e] X.env)).all (fun x => !x.1) && (backToKw cpos (keywordEach [] X.env)).all (fun x => x.1.isSome)
      && decide ([e].length + ([] : List Keyword).length + (if ([] : List Keyword).isEmpty then 0 else 1) < 30)) = true := by rfl)
    (h3 : (apos.endLine == cpos.line) = true := by rfl) (h4 : starEach [e] X.env = (false, eval e X.env) :: starEach [] X.env := by rfl) (h5 : (backTo cpos (starEach [] X.env)).any (·.1) = false := by rfl) :
    PE X (.Call (.Attribute o "index" apos) [e] [] cpos) (tTix to te) := by
  refine ⟨fun pins s σ H Q I h => ?_⟩
  refine wpAny_Call_method_late h1 h2 h3 rfl (thn (ho.run pins s σ H _ I h) fun v s1 ⟨x, H1, I1, r1, p, ns, ex, gp, q1⟩ => ?_)
  subst ex
  cases r1
  obtain ⟨ob, hb, hd⟩ := id gp
  obtain ⟨ho1, _, its, rv, o2, ho2, hc2, n2, hd2⟩ := (show ObjOk X.prog X.w H1 s1.heap p (.frz ob (.tup (ns.map V.int))) from I1.hok p _ hb)
  rw [ho1] at ho2
  cases ho2
  refine ⟨"tuple", _, PySem.F.plainAttrs_tuple, PySem.F.slot_tuple_index, PySem.F.type_tuple_index, ⟨_, ho1, hc2⟩, fun a ea => by cases ea; exact ⟨_, ho1, hd⟩, ?_⟩
  have ha : PA X [e] (tCons te tNil) := pa_cons he pa_nil (hs := h4)
  have hA := ha.run cpos pins s1 σ H1 (fun vs H2 => ∃ k, vs = [.int k] ∧ GT H2 p ns ∧ k ∈ ns ∧ Q (.int (ns.idxOf k : Nat)) H2) I1 q1
  rw [h4] at hA ⊢
  refine Calls.callWith_builtin (by show (false || (backTo cpos (starEach [] X.env)).any (·.1)) = false; rw [h5] <;> rfl) (Calls.evalArgs_plain ?_)
  exact thn hA fun us s2 ⟨vs, H2, I2, r2, k, ev, g2, hk, q2⟩ => mt_tIxQ pins s2 σ H2 (.ref p) vs (.ref p) us Q I2 rfl r2 ⟨p, ns, k, rfl, ev, g2.sq, hk, q2⟩
section
variable {K : PySem.W.Frag} {w : World} {H : Hp} {Q : VK} {p : Addr} {gs ns : List Int} {σ : L2.St}
end
end Rv
/-! the mathematics of rename pairs: chains, rings, what moves -/
namespace RQ
open RL
def full (l : List Int) : List Int := l.filter fun x => !decide (x = -1)
theorem mem_full {l : List Int} {x : Int} : x ∈ full l ↔ x ∈ l ∧ x ≠ -1 := by
  unfold full
  rw [List.mem_filter]
  simp
theorem inj_of : ∀ (l : List Int), (full l).Nodup → ∀ (i j : Nat) (x : Int), l[i]? = some x → l[j]? = some x → x ≠ -1 → i = j
  | [], _, i, _, _, h, _, _ => by simp at h
  | y :: r, nd, 0, 0, _, _, _, _ => rfl
  | y :: r, nd, 0, j + 1, x, h1, h2, nx => by
    cases h1
    have m : y ∈ full r := mem_full.mpr ⟨List.mem_of_getElem? h2, nx⟩
    unfold full at nd
    rw [List.filter_cons_of_pos (by simpa using nx)] at nd
    exact absurd m (List.nodup_cons.mp nd).1
  | y :: r, nd, i + 1, 0, x, h1, h2, nx => by
    cases h2
    have m : y ∈ full r := mem_full.mpr ⟨List.mem_of_getElem? h1, nx⟩
    unfold full at nd
    rw [List.filter_cons_of_pos (by simpa using nx)] at nd
    exact absurd m (List.nodup_cons.mp nd).1
  | y :: r, nd, i + 1, j + 1, x, h1, h2, nx => by
    have nd2 : (full r).Nodup := by
      unfold full at nd ⊢
      rw [List.filter_cons] at nd
      split at nd
      · exact (List.nodup_cons.mp nd).2
      · exact nd
    rw [inj_of r nd2 i j x h1 h2 nx]
structure Ren (es fs : List Int) : Prop where
  pm : es.Perm fs
  nd : (full es).Nodup
section
variable {es fs : List Int}
theorem Ren.len (R : Ren es fs) : es.length = fs.length := R.pm.length_eq
theorem Ren.swap (R : Ren es fs) : Ren fs es := ⟨R.pm.symm, (R.pm.filter _).nodup_iff.mp R.nd⟩
theorem get_at {l : List Int} {i : Nat} (h : i < l.length) : l[i]? = some (l.getD i 0) := by
  rw [List.getD_eq_getElem?_getD, List.getElem?_eq_getElem h]; rfl
theorem mem_at {l : List Int} {i : Nat} (h : i < l.length) : l.getD i 0 ∈ l := List.mem_of_getElem? (get_at h)
theorem at_idx {l : List Int} {x : Int} (h : x ∈ l) : l.idxOf x < l.length ∧ l.getD (l.idxOf x) 0 = x := by
  have hl := List.idxOf_lt_length_iff.mpr h
  refine ⟨hl, ?_⟩
  rw [List.getD_eq_getElem?_getD, List.getElem?_eq_getElem hl, List.getElem_idxOf hl]; rfl
theorem Ren.inj (R : Ren es fs) {i j : Nat} (hi : i < es.length) (hj : j < es.length) (e : es.getD i 0 = es.getD j 0) (n : es.getD i 0 ≠ -1) : i = j :=
  inj_of es R.nd i j _ (get_at hi) (by rw [e]; exact get_at hj) n
theorem Ren.injF (R : Ren es fs) {i j : Nat} (hi : i < es.length) (hj : j < es.length) (e : fs.getD i 0 = fs.getD j 0) (n : fs.getD i 0 ≠ -1) : i = j :=
  R.swap.inj (by rw [← R.len]; exact hi) (by rw [← R.len]; exact hj) e n
/-- where the value that lies there after lies before -/
def G (es fs : List Int) (b : Nat) : Nat := if fs.getD b 0 = -1 then b else es.idxOf (fs.getD b 0)
theorem Ren.to (R : Ren es fs) {b : Nat} (hb : b < es.length) (n : fs.getD b 0 ≠ -1) : G es fs b < es.length ∧ es.getD (G es fs b) 0 = fs.getD b 0 := by
  unfold G
  rw [if_neg n]
  exact at_idx (R.pm.mem_iff.mpr (mem_at (by rw [← R.len]; exact hb)))
theorem Ren.lt (R : Ren es fs) : ∀ b, b < es.length → G es fs b < es.length := fun b hb => by
  by_cases n : fs.getD b 0 = -1
  · unfold G; rw [if_pos n]; exact hb
  · exact (R.to hb n).1
structure Ar (es fs : List Int) (a b : Nat) : Prop where
  l1 : a < es.length
  l2 : b < es.length
  ne : a ≠ b
  fu : fs.getD a 0 ≠ -1
  eq : fs.getD a 0 = es.getD b 0
theorem Ren.ar (R : Ren es fs) {a : Nat} (ha : a < es.length) (n : fs.getD a 0 ≠ -1) (ne : G es fs a ≠ a) : Ar es fs a (G es fs a) := ⟨ha, (R.to ha n).1, fun e => ne e.symm, n, (R.to ha n).2.symm⟩
theorem Ren.ar2 (R : Ren es fs) {a : Nat} (ha : a < es.length) (ne : G es fs a ≠ a) : Ar es fs a (G es fs a) := R.ar ha (fun n => ne (by unfold G; rw [if_pos n])) ne
/-- a way: each step is an arrow -/
theorem way_ar (R : Ren es fs) {b : Nat} {p : List Nat} (P : Pth (G es fs) es.length b p) {i x y : Nat} (h1 : p[i]? = some x) (h2 : p[i + 1]? = some y) : Ar es fs x y := by
  have e := P.st i x y h1 h2
  have ne : x ≠ y := fun z => by
    rw [← z] at h2
    have := nd_inj P.nd h1 h2
    omega
  rw [e] at ne ⊢
  exact R.ar2 (P.lt x (List.mem_of_getElem? h1)) ne.symm
def Fo (es fs : List Int) (b : Nat) : List Nat := F (G es fs) es.length b
theorem fo_p (R : Ren es fs) {b : Nat} (hb : b < es.length) : Pth (G es fs) es.length b (Fo es fs b) ∧ G es fs ((Fo es fs b).getLastD 0) ∈ Fo es fs b := F_end R.lt hb
theorem rg_end (R : Ren es fs) {b : Nat} (hb : b < es.length) (r : IsR (G es fs) (Fo es fs b)) : G es fs ((Fo es fs b).getLastD 0) = b ∧ fs.getD ((Fo es fs b).getLastD 0) 0 ≠ -1 ∧ Ar es fs ((Fo es fs b).getLastD 0) b := by
  obtain ⟨P, _⟩ := fo_p R hb
  have e := r.2.1
  rw [P.headD] at e
  have ne : (Fo es fs b).getLastD 0 ≠ b := fun z => by
    have la := last_at P.ne
    rw [z] at la
    have := nd_inj P.nd P.hd la
    have := r.1
    omega
  have A := R.ar2 (P.lt _ (last_mem P.ne)) (by rw [e]; exact ne.symm)
  rw [e] at A
  exact ⟨e, A.fu, A⟩
def tops (es fs : List Int) (n : Nat) : List Nat := (List.range n).filter fun b => decide (IsR (G es fs) (Fo es fs b))
theorem mem_tops {n b : Nat} : b ∈ tops es fs n ↔ b < n ∧ IsR (G es fs) (Fo es fs b) := by unfold tops; rw [List.mem_filter, List.mem_range, decide_eq_true_eq]
theorem pw_range (n : Nat) (p : Nat → Bool) : ((List.range n).filter p).Pairwise (· < ·) := (List.pairwise_lt_range).filter _
/-! what moves -/
def mvA (es fs : List Int) (n : Nat) : List Int := ((List.range n).filter fun b => !decide (fs.getD b 0 = es.getD b 0) && !decide (fs.getD b 0 = -1)).map (fs.getD · 0)
theorem nd_map {l : List Nat} (nd : l.Nodup) {f : Nat → Int} (h : ∀ a ∈ l, ∀ b ∈ l, f a = f b → a = b) : (l.map f).Nodup := by
  unfold List.Nodup
  rw [List.pairwise_map]
  exact List.Pairwise.imp_of_mem (R := (· ≠ ·)) (fun {a b} ha hb ne e => ne (h a ha b hb e)) nd
/-! sorting -/
theorem srt_uniq {a b : List Int} (pm : a.Perm b) (ha : a.Pairwise (· ≤ ·)) (hb : b.Pairwise (· ≤ ·)) : a = b := List.Perm.eq_of_pairwise (fun x y _ _ h1 h2 => by omega) ha hb pm
end
end RQ
/-! x is not None, as a value -/
namespace Rv
open PySem PySem.Spec PyProof.Rows L2
end Rv
/-! for k38: tuples whose object may be known or not; a box with one cell; the size of a set -/
namespace Rv
open PySem PySem.Spec PyProof.Rows L2
def TG (H : Hp) (a : Addr) (es : List Int) : Prop := H a = some (.tup (es.map V.int)) ∨ GT H a es
section
variable {H H' : Hp} {a b p : Addr} {es : List Int} {B : Box} {xs : List V} {o : HO} {K : PySem.W.Frag} {Q : VK}
theorem TG.of (h : H a = some (.tup (es.map V.int))) : TG H a es := .inl h
theorem TG.sq (h : TG H a es) : SqT K H a (es.map V.int) := h.elim SqT.of GT.sq
theorem TG.keep (h : TG H a es) (k : ∀ o, H a = some o → H' a = some o) : TG H' a es := h.imp (k _) fun ⟨o, e, d⟩ => ⟨o, k _ e, d⟩
theorem TG.same (h : TG H a es) (S : Same H H') : TG H' a es := h.keep fun o e => S _ _ e
theorem TG.nl (h : TG H a es) : H a ≠ some (.lst xs) := fun e => by
  rcases h with h | ⟨o, h, _⟩ <;> rw [e] at h <;> cases h
theorem TG.mut (h : TG H a es) (e : H b = some (.lst xs)) : TG (upd H b o) a es := h.keep fun u eu => by
  rw [upd_ne (fun z => by rw [z] at h; exact h.nl e)]
  exact eu
theorem TG.dp (h : TG H a es) : Dp K H (.ref a) (.tuple (es.map PyData.int)) := .tup h.sq (dp_ints es)
/-! readings -/
theorem rd_ixO {v : V} {i : Int} (g : TG H p es) (e : atI (es.map V.int) i = some v) (q : Q v H) : rIxT K (.ref p) (.int i) H Q := ⟨p, _, i, v, rfl, rfl, g.sq, e, q⟩
theorem rd_lenO (g : TG H p es) (q : Q (.int (es.length : Nat)) H) : rLenQ K [.ref p] H Q := ⟨p, _, rfl, .inr g.sq, by rw [List.length_map]; exact q⟩
theorem rd_ninO {x : V} (h : TG H p es) (fx : flatV x = true) (q : Q (.bl (!inV x (es.map V.int))) H) : rIn K true x (.ref p) H Q := ⟨p, _, rfl, .inr h.sq, fx, ints_flat es, q⟩
theorem rd_lstO (h : TG H p es) (q : NewL (.lst (es.map V.int)) Q H) : rLstQ K [.ref p] H Q := ⟨p, _, rfl, .inr h.sq, q⟩
theorem rd_ItO {R : It → Hp → Prop} (h : TG H p es) (q : R (Itt K p) H) : ItT K R (.ref p) H := ⟨p, rfl, ⟨_, h.sq⟩, q⟩
end
/-! isinstance, enumerate, sorted of a tuple of either make -/
def rIsO (K : PySem.W.Frag) : List V → Hp → VK → Prop := fun xs H Q => rIsi K xs H Q ∨ rIsG xs H Q
theorem call_isO {X : Cx} : CallR X (.builtin "isinstance") (rIsO X.K) := fun pins s σ H xs us Q I r h => h.elim (call_isi pins s σ H xs us Q I r) (call_isG pins s σ H xs us Q I r)
def EnO (R : It → Hp → Prop) (vs : List V) (H1 : Hp) : Prop := ∃ (a : Addr) (es : List Int), vs = [.ref a] ∧ TG H1 a es ∧ ∀ G : Hp → Prop, (∀ H2, Same H1 H2 → G H2) → R (Jen (es.map V.int).length G (fun i => (es.map V.int)[i]?)) H1
def iEnO (ta : TA) : TI := fun σ H R => ta σ H fun vs H1 => EnO R vs H1
theorem pi_enO {X : Cx} {e : Expr} {ta : TA} {p pos tpos : Pos} {elts : List Expr} {kk : Nat} (hg : Gl X "enumerate") (hm : X.mg "enumerate" = none) (ha : PA X [e] ta) (hs : starEach [e] X.env = [(false, eval e X.env)] := by rfl) :
    PI X (.Tuple elts kk tpos) (.Call (.Name "enumerate" p) [e] [] pos) (iEnO ta) := by
  refine ⟨fun pins s σ H R I h => Call_ (ld_blt I hg hm boot_enumerate (PyProof.Rows.callWith_type1 (thn (ha.run pos pins s σ H _ I h) fun us s1 q0 => ?_) hs rfl))⟩
  obtain ⟨vs, H1, I1, r1, a, es, rfl, hT, q⟩ := q0
  cases r1 with
  | cons r rr =>
    cases rr
    cases r
    obtain ⟨its, rv, hI, _⟩ := I1.tuple (show SqT X.K H1 a (es.map V.int) from hT.sq)
    refine enum1 (begins_tuple a its.toArray) hI fun h' he ho hk => wpAny_pyIter_enum he ?_
    have I2 : Inv X pins σ H1 { s1 with heap := h' } := I1.kept (t' := s1.toks) hk
    have fin : ∀ b ∈ [s1.heap.objs.size + 1, s1.heap.objs.size], FpOk X pins H1 b := fun b hb => by
      have le : s1.heap.objs.size ≤ b := by
        rcases List.mem_cons.mp hb with z | z
        · rw [z]; exact Nat.le_succ _
        · rw [show b = s1.heap.objs.size by simpa using z]; exact Nat.le_refl _
      exact I1.fpOk le (I1.hok.fresh le)
    rcases hT with hT | ⟨o, hT, _⟩
    · exact ⟨s1.heap.objs.size + 1, [s1.heap.objs.size + 1, s1.heap.objs.size], _, _, H1, rfl, I2, turn_jen (feed_tup s1.heap.objs.size a (es.map V.int)) (Nat.succ_ne_self _), ⟨⟨.none, he⟩, ⟨_, ho, rfl, rfl⟩⟩, fin, q _ fun H2 S => S _ _ hT⟩
    · exact ⟨s1.heap.objs.size + 1, [s1.heap.objs.size + 1, s1.heap.objs.size], _, _, H1, rfl, I2, turn_jen (feed_tupG s1.heap.objs.size a o (es.map V.int)) (Nat.succ_ne_self _), ⟨⟨.none, he⟩, ⟨_, ho, rfl, rfl⟩⟩, fin, q _ fun H2 S => S _ _ hT⟩
def rSortO (K : PySem.W.Frag) : List V → Hp → VK → Prop := fun vs H Q => ∃ (a : Addr) (ns : List Int), vs = [V.ref a] ∧ SqT K H a (ns.map V.int) ∧ ns.length < 64 ∧
  ∀ (ms : List Int) (p : Addr), ms.Perm ns → ms.Pairwise (· ≤ ·) → H p = none → Q (.ref p) (upd H p (.lst (ms.map V.int)))
theorem cr_sortO {X : Cx} : CallR X (.builtin "sorted") (rSortO X.K) := by
  intro pins s σ H vs us Q I r h
  obtain ⟨a, ns, rfl, hs, few, q⟩ := h
  obtain ⟨its, rv, it, _⟩ := I.tuple hs
  rw [Vals.ref1 r]
  have num := rv.ints
  refine sortT it num (by rw [num.length]; exact few) fun out ms b1 b2 b3 => ?_
  obtain ⟨ep, at2⟩ := sortedAll_at s.heap its out
  have ln : (ms.map V.int).length ≤ sizeLine := by
    rw [List.length_map, b2.length_eq]
    exact small64 few
  exact ⟨.ref _, upd H (s.heap.objs.size + 1) (.lst (ms.map V.int)), I.laid (t' := s.toks) (fun _ _ => sortedAll_old) (Nat.le_succ _) ⟨ln, out.toList, ep, vals_of_ints b1, at2⟩, rfl, q ms _ b2 b3 (I.hok.fresh (Nat.le_succ _))⟩
/-- len(s), s a set of whole numbers -/
def rLenSO (w : World) : List V → Hp → VK → Prop := fun xs H Q => ∃ (a : Addr) (ns : List Int) (n : Nat), xs = [.ref a] ∧ H a = some (SetO w a (fun j => decide (j ∈ ns)) n) ∧ ((∃ ks : List Int, ks.Nodup ∧ (∀ k, k ∈ ks ↔ k ∈ ns) ∧ ks.length = n) → Q (.int n) H)
theorem call_lenSO {X : Cx} : CallR X (.builtin "len") (rLenSO X.w) := by
  intro pins s σ H xs us Q I r h
  obtain ⟨a, ns, n, rfl, ha, q⟩ := h
  rw [Vals.ref1 r]
  obtain ⟨o, es, ep, t, ho, hex, hd, _, nd, mem, lt, hf, hn, _⟩ := setO_get I ha
  refine call_len_set ho hex hd hf (by unfold scanBound at lt; omega) ⟨.int n, H, I.tok _, ⟨_, by rw [hn]⟩, q ⟨_, nd, fun k => (mem k).symm.trans decide_eq_true_iff, by rw [List.length_map, Array.length_toList, hn]⟩⟩
section
variable {H : Hp} {K : PySem.W.Frag} {w : World} {Q : VK} {p a : Addr} {es ns : List Int} {n : Nat} {xs : List V}
theorem rd_isO (g : TG H p es) (q : Q (.bl true) H) : rIsO K [.ref p, .ty "tuple"] H Q := g.elim (fun h => .inl (rd_isiT h kit_tt q)) fun h => .inr (rd_isG h q)
theorem rd_isOL (h : H p = some (.lst xs)) (q : Q (.bl false) H) : rIsO K [.ref p, .ty "tuple"] H Q := .inl (rd_isiL h kit_lt q)
theorem rd_iEnO {ta : TA} {σ : L2.St} {R : It → Hp → Prop} (q : ta σ H fun vs H1 => EnO R vs H1) : iEnO ta σ H R := q
theorem rd_EnO {R : It → Hp → Prop} (g : TG H p es) (q : ∀ G : Hp → Prop, (∀ H2, Same H H2 → G H2) → R (Jen (es.map V.int).length G (fun i => (es.map V.int)[i]?)) H) : EnO R [.ref p] H := ⟨p, es, rfl, g, q⟩
theorem rd_sortO (h : TG H a es) (few : es.length < 64) (q : ∀ (H2 : Hp) (p : Addr) (ms : List Int), Same H H2 → H p = none → H2 p = some (.lst (ms.map V.int)) → ms.Perm es → ms.Pairwise (· ≤ ·) → Q (.ref p) H2) : rSortO K [.ref a] H Q :=
  ⟨a, es, rfl, h.sq, few, fun ms p pm pw np => q _ p ms (same_new (Same.refl _) np) np upd_same pm pw⟩
theorem rd_lenSO (h : H a = some (SetO w a (fun j => decide (j ∈ ns)) n)) (q : (∃ ks : List Int, ks.Nodup ∧ (∀ k, k ∈ ks ↔ k ∈ ns) ∧ ks.length = n) → Q (.int n) H) : rLenSO w [.ref a] H Q := ⟨a, ns, n, rfl, h, q⟩
end
/-- how many different ones -/
theorem card_nodup {ns ks : List Int} (nd : ns.Nodup) (k1 : ks.Nodup) (k2 : ∀ k, k ∈ ks ↔ k ∈ ns) : ks.length = ns.length := ((List.perm_ext_iff_of_nodup k1 nd).mpr k2).length_eq
theorem nd_sub : ∀ {ks ns : List Int}, ks.Nodup → (∀ k ∈ ks, k ∈ ns) → ks.length ≤ ns.length
  | [], _, _, _ => Nat.zero_le _
  | x :: r, ns, nd, h => by
    have nd2 := List.nodup_cons.mp nd
    have hx := h x (List.mem_cons_self ..)
    have := nd_sub (ks := r) (ns := ns.erase x) nd2.2 fun k hk => (List.mem_erase_of_ne (fun e => nd2.1 (by rw [← e]; exact hk))).mpr (h k (List.mem_cons_of_mem _ hk))
    rw [List.length_erase_of_mem hx] at this
    have : 0 < ns.length := List.length_pos_of_mem hx
    rw [List.length_cons]
    omega
theorem card_dup : ∀ {ns ks : List Int}, ¬ ns.Nodup → ks.Nodup → (∀ k, k ∈ ks ↔ k ∈ ns) → ks.length < ns.length
  | [], _, h, _, _ => absurd List.nodup_nil h
  | x :: r, ks, h, nd, m => by
    rw [List.length_cons]
    by_cases z : x ∈ r
    · have := nd_sub (ns := r) nd fun k hk => by
        rcases List.mem_cons.mp ((m k).mp hk) with e | e
        · rw [e]; exact z
        · exact e
      omega
    · have hr : ¬ r.Nodup := fun n => h (List.nodup_cons.mpr ⟨z, n⟩)
      have hx : x ∈ ks := (m x).mpr (List.mem_cons_self ..)
      have := card_dup (ks := ks.erase x) hr (nd.erase x) fun k => by
        constructor
        · intro hk
          rcases List.mem_cons.mp ((m k).mp (List.mem_of_mem_erase hk)) with e | e
          · rw [e] at hk
            exact absurd hk nd.not_mem_erase
          · exact e
        · intro hk
          have ne : k ≠ x := fun e => z (by rw [← e]; exact hk)
          exact (List.mem_erase_of_ne ne).mpr ((m k).mpr (List.mem_cons_of_mem _ hk))
      rw [List.length_erase_of_mem hx] at this
      have : 0 < ks.length := List.length_pos_of_mem hx
      omega
/-! the box: [cell, whether it is great, a lesser one, how many were taken] -/
def bkL (b : Addr) : Box where
  b := b
  m := [b]
  fp := [b]
  I H := ∃ A f M c : Int, H b = some (.lst [.int A, .int f, .int M, .int c])
  sub a ha := ha
  live H i a ha := by
    obtain ⟨_, _, _, _, h⟩ := i
    rw [List.mem_singleton.mp ha]
    exact ⟨_, h⟩
  frame H H' i k := by
    obtain ⟨A, f, M, c, h⟩ := i
    exact ⟨A, f, M, c, by rw [k b (List.mem_singleton.mpr rfl)]; exact h⟩
def IsBk (B : Box) : Prop := ∃ b, B = bkL b
theorem bk_put {b : Addr} {H0 H : Hp} {A f M c : Int} (w : Wg (bkL b) H0 H) : Wg (bkL b) H0 (upd H b (.lst [.int A, .int f, .int M, .int c])) :=
  ⟨fun a o ha e => by
    have nb : a ≠ b := fun z => ha (by rw [z]; exact List.mem_singleton.mpr rfl)
    rw [upd_ne nb]
    exact w.keep a o ha e, w.i0, ⟨A, f, M, c, upd_same⟩⟩
/-! images that may be wrong -/
def EOk (e : Int) : Prop := -1 ≤ e ∧ e ≤ 999
instance (e : Int) : Decidable (EOk e) := by unfold EOk; exact inferInstance
def IB (M : List Addr) (H : Hp) (v : V) (k : Int) : Prop :=
  (k = -1 ∧ ((∃ p xs, v = .ref p ∧ p ∉ M ∧ H p = some (.lst xs)) ∨ (∃ p es, v = .ref p ∧ TG H p es ∧ (es.length = 0 ∨ 12 < es.length) ∧ es.length ≤ 1000))) ∨
  (∃ (a : Addr) (es : List Int) (j : Nat), v = .ref a ∧ TG H a es ∧ 1 ≤ es.length ∧ es.length ≤ 12 ∧ k = (j : Int) ∧ j < es.length ∧ ¬ EOk (es.getD j 0) ∧ ∀ i : Nat, i < j → EOk (es.getD i 0))
theorem IB.keep {M : List Addr} {H H' : Hp} {v : V} {k : Int} (h : IB M H v k) (kp : ∀ a o, (a ∉ M ∨ ∀ xs, o ≠ .lst xs) → H a = some o → H' a = some o) : IB M H' v k := by
  have tg : ∀ {p es}, TG H p es → TG H' p es := fun {p es} t => t.keep fun o e => kp _ _ (.inr fun xs z => by rw [z] at e; exact t.nl e) e
  rcases h with ⟨e, ⟨p, xs, e2, n, h⟩ | ⟨p, es, e2, h, l⟩⟩ | ⟨a, es, j, e, h, r⟩
  · exact .inl ⟨e, .inl ⟨p, xs, e2, n, kp _ _ (.inl n) h⟩⟩
  · exact .inl ⟨e, .inr ⟨p, es, e2, tg h, l⟩⟩
  · exact .inr ⟨a, es, j, e, tg h, r⟩
theorem IB.same {M : List Addr} {H H' : Hp} {v : V} {k : Int} (h : IB M H v k) (S : Same H H') : IB M H' v k := h.keep fun a o _ e => S a o e
/-- a good image -/
def IG (H : Hp) (v : V) (es : List Int) : Prop := ∃ a, v = .ref a ∧ TG H a es ∧ Img es
theorem IG.same {H H' : Hp} {v : V} {es : List Int} (h : IG H v es) (S : Same H H') : IG H' v es := by
  obtain ⟨a, e, t, i⟩ := h
  exact ⟨a, e, t.same S, i⟩
end Rv
/-! for k38: pairs that are right, and those that are not; careful lines -/
namespace Rv
open PySem PySem.Spec PyProof.Rows L2 RL RQ
theorem TG.inj {H : Hp} {a : Addr} {es fs : List Int} (h : TG H a es) (k : TG H a fs) : es = fs := by
  have im : ∀ {x y : List Int}, x.map V.int = y.map V.int → x = y := fun {x y} e => List.map_inj_right (fun a b h => V.int.inj h) |>.mp e
  rcases h with h | ⟨o, h, _⟩ <;> rcases k with k | ⟨o2, k, _⟩
  · rw [h] at k; injection k with k; injection k with k; exact im k
  · rw [h] at k; injection k with k; cases k
  · rw [h] at k; injection k with k; cases k
  · rw [h] at k; injection k with k; injection k with k1 k; injection k with k; exact im k
/-- which image of two is wrong -/
def PB (M : List Addr) (H : Hp) (v1 v2 : V) (k : Int) : Prop := IB M H v1 k ∨ (∃ es, IG H v1 es ∧ IB M H v2 k)
/-- a rename pair, both tuples known -/
structure RP (H : Hp) (a b : Addr) (es fs : List Int) : Prop where
  ga : GT H a es
  gb : GT H b fs
  ia : Img es
  ib : Img fs
  rn : Ren es fs
theorem RP.same {H H' : Hp} {a b : Addr} {es fs : List Int} (h : RP H a b es fs) (S : Same H H') : RP H' a b es fs := ⟨h.ga.same S, h.gb.same S, h.ia, h.ib, h.rn⟩
theorem RP.ta {H : Hp} {a b : Addr} {es fs : List Int} (h : RP H a b es fs) : TG H a es := .inr h.ga
theorem RP.tb {H : Hp} {a b : Addr} {es fs : List Int} (h : RP H a b es fs) : TG H b fs := .inr h.gb
def PairS (K : PySem.W.Frag) (H : Hp) (v1 v2 : V) (E : XK) (Qg : Addr → Addr → List Int → List Int → Prop) : Prop :=
  (∃ a b es fs, v1 = .ref a ∧ v2 = .ref b ∧ RP H a b es fs ∧ Qg a b es fs) ∨
  (∃ M k, PB M H v1 v2 k ∧ ∀ H' d, Same H H' → H' d = some (.xd [("block", .int k)]) → E (.ref (atTop K "InvalidImage")) (some d) H') ∨
  (∃ es fs, IG H v1 es ∧ IG H v2 fs ∧ ¬ Ren es fs ∧ ∀ H', Same H H' → E (.ref (atTop K "NotRenaming")) none H')
/-- where the values come from -/
def ldL (es fs : List Int) : List Int := fs.map fun e => if e = -1 then -1 else (es.idxOf e : Int)
theorem ldL_len (es fs : List Int) : (ldL es fs).length = fs.length := List.length_map ..
theorem ldL_at {es fs : List Int} {b : Nat} (h : b < fs.length) : atI ((ldL es fs).map V.int) (b : Int) = some (.int (if fs.getD b 0 = -1 then -1 else ((G es fs b : Nat) : Int))) := by
  refine atI_nat ?_
  unfold ldL
  rw [List.getElem?_map, List.getElem?_map, get_at h]
  show some (V.int (if fs.getD b 0 = -1 then -1 else ((es.idxOf (fs.getD b 0) : Nat) : Int))) = _
  unfold G
  by_cases z : fs.getD b 0 = -1
  · rw [if_pos z, if_pos z]
  · rw [if_neg z, if_neg z, if_neg z]
theorem rd_neL {K : PySem.W.Frag} {H : Hp} {Q : VK} {p p2 : Addr} {xs ys : List Int} (h : H p = some (.lst (xs.map V.int))) (h2 : H p2 = some (.lst (ys.map V.int))) (q : Q (.bl (!decide (xs = ys))) H) : rNeD K (.ref p) (.ref p2) H Q := by
  obtain ⟨d1, d2, a1, a2, s1, s2, q2⟩ := rd_eqL (K := K) (Q := fun v H' => ∃ b, v = .bl b ∧ Q (.bl (!b)) H') h h2 ⟨_, rfl, q⟩
  obtain ⟨b, e, q3⟩ := q2
  refine ⟨d1, d2, a1, a2, s1, s2, ?_⟩
  have := V.bl.inj e
  rw [this]
  exact q3
/-- t.index(k) of whole numbers -/
theorem rd_tixI {i j : Nat} {σ : L2.St} {H : Hp} {Q : VK} {p : Addr} {ns : List Int} {k : Int} (hv : σ[i]? = some (some (.ref p))) (hw : σ[j]? = some (some (.int k))) (g : GT H p ns) (m : k ∈ ns) (q : Q (.int (ns.idxOf k : Nat)) H) : tTix (tVar i) (tVar j) σ H Q :=
  ⟨_, hv, p, ns, rfl, g, _, hw, k, rfl, g, m, q⟩
/-- a careful line -/
def Care (r : Ln) : Prop := r.w = sMove ∧ r.g ≠ [] ∧ r.g.getD r.t.toNat 0 = 46
/-! the first number that does not stand in a list -/
structure Cand (c : Nat → Int) (found : List Int) (k j : Nat) (v : Int) : Prop where
  eq : v = c k
  le : k ≤ j
  old : ∀ i, i < k → c i ∈ found
  new : v ∉ found ∨ k = j
theorem Cand.zero {c : Nat → Int} {found : List Int} : Cand c found 0 0 (c 0) := ⟨rfl, Nat.le_refl _, fun i h => absurd h (Nat.not_lt_zero i), .inr rfl⟩
theorem Cand.stay {c : Nat → Int} {found : List Int} {k j : Nat} {v : Int} (h : Cand c found k j v) (n : v ∉ found) : Cand c found k (j + 1) v := ⟨h.eq, Nat.le_succ_of_le h.le, h.old, .inl n⟩
theorem Cand.step {c : Nat → Int} {found : List Int} {k j : Nat} {v : Int} (h : Cand c found k j v) (m : v ∈ found) : Cand c found (k + 1) (j + 1) (c (k + 1)) := by
  have e : k = j := h.new.resolve_left fun n => n m
  exact ⟨rfl, by omega, fun i hi => by
    by_cases z : i = k
    · rw [z, ← h.eq]; exact m
    · exact h.old i (by omega), .inr (by omega)⟩
theorem Cand.done {c : Nat → Int} {found : List Int} {k j : Nat} {v : Int} (h : Cand c found k j v) (l : found.length ≤ j) (inj : ∀ a b, a ≤ j → b ≤ j → c a = c b → a = b) : v ∉ found := fun m => by
  have e : k = j := h.new.resolve_left fun n => n m
  have nd : ((List.range (j + 1)).map c).Nodup := nd_map List.nodup_range fun a ha b hb e2 => inj a b (by have := List.mem_range.mp ha; omega) (by have := List.mem_range.mp hb; omega) e2
  have := nd_sub nd (ns := found) fun x hx => by
    obtain ⟨a, ha, rfl⟩ := List.mem_map.mp hx
    have := List.mem_range.mp ha
    by_cases z : a = k
    · rw [z, ← h.eq]; exact m
    · exact h.old a (by omega)
  rw [List.length_map, List.length_range] at this
  omega
/-! laying, exchanging -/
theorem set_perm {l : List Int} {i : Nat} {x v : Int} (h : l[i]? = some x) : (l.set i v).Perm (v :: l.eraseIdx i) ∧ l.Perm (x :: l.eraseIdx i) := by
  obtain ⟨hi, e⟩ := List.getElem?_eq_some_iff.mp h
  have p : ∀ y : Int, (l.take i ++ y :: l.drop (i + 1)).Perm (y :: l.eraseIdx i) := fun y => by
    rw [List.eraseIdx_eq_take_drop_succ]
    exact List.perm_middle
  constructor
  · rw [List.set_eq_take_append_cons_drop, if_pos hi]
    exact p v
  · have := p x
    rw [← e, ← List.drop_eq_getElem_cons hi, List.take_append_drop] at this
    rw [← e]
    exact this
/-- int(i), int(b) -/
def rIntO : List V → Hp → VK → Prop := fun xs H Q => rIntQ xs H Q ∨ ∃ b, xs = [.bl b] ∧ Q (.int (if b = true then 1 else 0)) H
theorem call_intO {X : Cx} : CallR X (.type "int") rIntO := fun pins s σ H xs us Q I r h => call_int1 pins s σ H xs us Q I r h
theorem rd_intOB {b : Bool} {H : Hp} {Q : VK} (q : Q (.int (if b = true then 1 else 0)) H) : rIntO [.bl b] H Q := .inr ⟨b, rfl, q⟩
theorem rd_intOI {i : Int} {H : Hp} {Q : VK} (q : Q (.int i) H) : rIntO [.int i] H Q := .inl ⟨i, rfl, q⟩
end Rv
namespace Rv
open PySem PySem.Spec PyProof.Rows L2 RL RQ
theorem flat_one (n : Nat) (x : V) : (List.replicate n [x]).flatten = List.replicate n x := by
  induction n with
  | zero => rfl
  | succ n ih => rw [List.replicate_succ, List.flatten_cons, ih, List.replicate_succ]; rfl
theorem erase_nd {l : List Nat} (nd : l.Nodup) (i : Nat) : (l.eraseIdx i).Nodup := List.Pairwise.sublist (List.eraseIdx_sublist ..) nd
theorem erase_ne {l : List Nat} (nd : l.Nodup) {i x : Nat} (h : l[i]? = some x) : x ∉ l.eraseIdx i := fun m => by
  obtain ⟨j, hj⟩ := List.getElem?_of_mem m
  rw [List.getElem?_eraseIdx] at hj
  split at hj
  · have := nd_inj nd h hj; omega
  · have := nd_inj nd h hj; omega
theorem nvs_eraseIdx (l : List Nat) (i : Nat) : (nvs l).eraseIdx i = nvs (l.eraseIdx i) := by
  induction l generalizing i with
  | nil => rfl
  | cons x r ih =>
    cases i with
    | zero => rfl
    | succ i => show V.int (x : Int) :: (nvs r).eraseIdx i = V.int (x : Int) :: nvs (r.eraseIdx i); rw [ih]
theorem erase_mem {l : List Nat} {i x : Nat} (h : x ∈ l.eraseIdx i) : x ∈ l := (List.eraseIdx_sublist l i).mem h
end Rv
namespace Rv
open PySem PySem.Spec PyProof.Rows L2 RL RQ
def sgS (e : Int) : Str := if e = -1 then Str.ofString "." else Str.ofString (toString (e.fdiv 100))
end Rv
namespace Rv
open PySem PySem.Spec PyProof.Rows L2 RL RQ
end Rv
namespace Rv
open PySem PySem.Spec PyProof.Rows L2 RL RQ
end Rv
namespace Rv
open PySem PySem.Spec PyProof.Rows L2 RL RQ
/-- an item whose data are told -/
def ImD (it : Im) : Prop := ∃ d : PyData, Sh 1 d ∧ ∀ (K : PySem.W.Frag) (M : List Addr) (H : Hp) (v : V), ImAt M H v it → Dp K H v d
/-- how the law marks a line -/
def MkL (n m : Nat) (it : Im) : Prop := (m = 0 ∧ ∃ r : Ln, it = .tup r.vals ∧ LnOk n r ∧ Care r) ∨ (m = 1 ∧ ∃ r : Ln, it = .tup r.vals ∧ LnOk n r ∧ ¬ Care r) ∨ (m = 2 ∧ ¬ Good n it)
structure LnMs (n : Nat) (is : List Im) (ms : List Nat) : Prop where
  len : is.length = ms.length
  mkd : ∀ (i : Nat) (it : Im) (m : Nat), is[i]? = some it → ms[i]? = some m → MkL n m it
  ok : ∀ it ∈ is, Wf it ∧ ImD it
end Rv
/-! the mathematics of plans: paths of moves whose looks never repeat -/
namespace RV
open RL RQ Rv
def mv (g : List Int) (t s : Nat) : List Int := (g.set t (g.getD s 0)).set s (-1)
/-- each move goes from a full to an empty block, no look comes twice -/
def climb : List Int → List (List Nat) → List (Nat × Nat) → List Int → List (List Nat) → Prop
  | g, V, [], g', V' => g' = g ∧ V' = V
  | g, V, (t, s) :: ms, g', V' => t < g.length ∧ s < g.length ∧ g.getD t 0 = -1 ∧ g.getD s 0 ≠ -1 ∧ codes (mv g t s) ∉ V ∧ climb (mv g t s) (V ++ [codes (mv g t s)]) ms g' V'
/-- entries in range -/
def Rg (g : List Int) : Prop := ∀ e ∈ g, -1 ≤ e ∧ e ≤ 999
theorem sg_46 {e : Int} (h : -1 ≤ e ∧ e ≤ 999) : sg e = 46 ↔ e = -1 := by
  unfold sg
  by_cases z : e = -1
  · rw [if_pos z]; exact ⟨fun _ => z, fun _ => rfl⟩
  · rw [if_neg z]
    exact ⟨fun k => by omega, fun k => absurd k z⟩
theorem mv_len (g : List Int) (t s : Nat) : (mv g t s).length = g.length := by unfold mv; rw [List.length_set, List.length_set]
theorem mv_rg {g : List Int} {t s : Nat} (R : Rg g) (hs : s < g.length) : Rg (mv g t s) := fun e he => by
  unfold mv at he
  rcases List.mem_or_eq_of_mem_set he with k | k
  · rcases List.mem_or_eq_of_mem_set k with k2 | k2
    · exact R e k2
    · rw [k2]; exact R _ (mem_at hs)
  · rw [k]; exact ⟨by decide, by decide⟩
def along (p : List Nat) : List (Nat × Nat) := p.zip p.tail
end RV
/-! plans: chains, rings opened and closed around them -/
namespace RV
open RL RQ Rv
def Nx (es fs : List Int) (c : List Nat) : Prop := ∀ u b b' w, c = u ++ b :: b' :: w → fs.getD b 0 = es.getD b' 0
structure Chn (es fs : List Int) (c : List Nat) : Prop where
  nd : c.Nodup
  lt : ∀ z ∈ c, z < es.length
  sh : ∃ x y r, c = x :: y :: r ∧ es.getD x 0 = -1 ∧ ∀ z ∈ y :: r, es.getD z 0 ≠ -1
  nx : Nx es fs c
  en : ∀ u b, c = u ++ [b] → fs.getD b 0 = -1
structure Cyc (es fs : List Int) (r : List Nat) : Prop where
  nd : r.Nodup
  lt : ∀ z ∈ r, z < es.length
  ne : r ≠ []
  fu : ∀ z ∈ r, es.getD z 0 ≠ -1
  nx : Nx es fs r
  en : ∀ u b x v, r = u ++ [b] → r = x :: v → fs.getD b 0 = es.getD x 0
def Disj (cs : List (List Nat)) : Prop := cs.Pairwise fun a b => ∀ x ∈ a, x ∉ b
/-- all rows of a pair -/
structure Rows (es fs : List Int) (cs rs : List (List Nat)) : Prop where
  len : es.length = fs.length
  rg : Rg es
  ch : ∀ c ∈ cs, Chn es fs c
  cy : ∀ r ∈ rs, Cyc es fs r
  dj : Disj (cs ++ rs)
  rest : ∀ b, b < es.length → (∀ c ∈ cs ++ rs, b ∉ c) → es.getD b 0 = fs.getD b 0
/-- what comes between the opening and the closing -/
structure Mid (fs gA : List Int) (VA : List (List Nat)) (ms : List (Nat × Nat)) (gB : List Int) (WB : List (List Nat)) (Bm : List Nat) : Prop where
  cl : climb gA VA ms gB (VA ++ WB)
  rg : Rg gB
  len : gB.length = gA.length
  out : ∀ z, z ∉ Bm → gB.getD z 0 = gA.getD z 0
  vout : ∀ v ∈ WB, ∀ z, z < gA.length → z ∉ Bm → v.getD z 0 = (codes gA).getD z 0
  sep : ∃ W0, WB = W0 ++ [codes gB] ∧ ∀ v ∈ VA ++ W0, ∃ z, z < gA.length ∧ z ∈ Bm ∧ v.getD z 0 ≠ (codes gB).getD z 0
  fin : ∀ b ∈ Bm, gB.getD b 0 = fs.getD b 0
end RV
/-! plans: rings around what comes between -/
namespace RV
open RL RQ Rv
def lst (r : List Nat) : Nat := r.getLastD 0
/-- the moves of a plan -/
def around_moves (turned : List (List Nat)) (sp : Nat) (ms : List (Nat × Nat)) : List (Nat × Nat) := along (sp :: turned.flatten) ++ ms ++ along (turned.reverse.map lst ++ [sp])
end RV
/-! plans: the rows of a rename pair, their count -/
namespace RV
open RL RQ Rv
section
variable {es fs : List Int}
theorem getD_getN {l : List Nat} {i : Nat} (h : i < l.length) : l.getD i 0 = l[i] := by
  rw [List.getD_eq_getElem?_getD, List.getElem?_eq_getElem h]; rfl
def rngs (es fs : List Int) : List (List Nat) := (tops es fs es.length).map (Fo es fs)
/-- all cases of a plan -/
structure Planned (es fs : List Int) (ms : List (Nat × Nat)) : Prop where
  climb : ∃ V, climb es [codes es] ms fs V
  len : ms.length = (mvA es fs es.length).length + (rngs es fs).length
end
end RV
/-! set comprehensions whose elements are texts or numbers -/
namespace Rv
open PySem PySem.Spec PyProof.Rows L2 PpSet
section
variable {X : Cx}
/-- one turn's end: the element goes into the set at d -/
def PutK (P : Program) (w : World) (d : Addr) (Nx : Hp → Prop) : VK := fun y G => ∃ (k : Key) (S : Key → Bool) (c : Nat), y = kV k ∧ G d = some (SetK P w d S c) ∧ c + 1 < scanBound ∧
  Nx (upd G d (SetK P w d (fun j => S j || decide (j = k)) (if S k = true then c else c + 1)))
def Sk (P : Program) (w : World) (J : It) (g : L2.TG) (tt : TT) (te : TE) (vs : List Nat) (σ : L2.St) (G0 : Hp) (Q : VK) : Prop :=
  ∀ d, G0 d = none → ∃ W : Nat → Nat → Hp → Prop, (∃ m, W 0 m (upd G0 d (SetK P w d (fun _ => false) 0))) ∧ ∀ i m G, W i m G →
    (J.stop i G ∧ Q (.ref d) G) ∨ (J.go i G ∧ ∃ Nx : Hp → Prop, (∀ G', Nx G' → ∃ m', m' < m ∧ W (i + 1) m' G') ∧
      ∀ x G', J.yld i G x G' → g x (wipe σ vs) G' fun σ2 G2 => wipe σ2 vs = wipe σ vs ∧ tt σ2 G2 fun b G3 => if b = true then te σ2 G3 (PutK P w d Nx) else Nx G3)
def tSk (P : Program) (w : World) (wi : TI) (g : L2.TG) (tt : TT) (te : TE) (vs : List Nat) : TE := fun σ H Q => wi σ H fun J G => Sk P w J g tt te vs σ G Q
abbrev bareK (w : World) : Obj := { cls := .type "set", dict := none, data := .set #[] 0 (.fresh 0 0 (!w.params.followText "set-order")) }
theorem put_key {pins : List (Addr × Obj)} {σ : L2.St} {G : Hp} {s : Shared} {E : Value → Shared → Prop} {d : Addr} {Nx : Hp → Prop} {y : V} {u : Value} {Q : Value → Shared → Prop} (I : Inv X pins σ G s) (ry : RelV y u) (h : PutK X.prog X.w d Nx y G)
    (q : ∀ s' G', Inv X pins σ G' s' → Nx G' → Q .none s') : wpAny (model X.prog X.w) X.A (call (.builtin "set.add") [.ref d, u]) Q E s := by
  obtain ⟨k, S, c, rfl, hd, room, nx⟩ := h
  refine call_set_add (kV_is ry) (key_scan ry) (setK_get I hd) room fun h' sb new => ?_
  have he : ∃ u, h'.get? d = some u := by
    have ⟨o, _, _, _, ho, _⟩ := new
    exact ⟨o, ho⟩
  exact q _ _ (I.write (e := d) (t' := s.toks + 1) (by rw [hd]; trivial) (.inl rfl) (fun b u hb hu => (sb.2 b hb).trans hu) he (setK_new new)) nx
variable {elt tg iter : Expr} {ifs : List Expr} {scope : Scope} {own : List (PySem.Str × Nat)} {pos : Pos} {wi : TI} {g : L2.TG} {tt : TT} {te : TE} {w : World}
theorem pe_sk {P : Program} (hp : X.prog = P) (hw : X.w = w) (calm : X.calm = true) (nd : X.N.Nodup) (hi : PI X tg iter wi) (ok : BlkOk X.N X.env.scope scope own)
    (hg : ∀ (s : Shared) (H : Hp) (C : Addr) (cl : List (PySem.Str × Addr)) (fp : List Addr), PG (X.blk s H scope (compEnvC scope cl C X.env) fp) tg g)
    (ht : ∀ (s : Shared) (H : Hp) (C : Addr) (cl : List (PySem.Str × Addr)) (fp : List Addr), PTs (X.blk s H scope (compEnvC scope cl C X.env) fp) ifs tt)
    (he : ∀ (s : Shared) (H : Hp) (C : Addr) (cl : List (PySem.Str × Addr)) (fp : List Addr), PE (X.blk s H scope (compEnvC scope cl C X.env) fp) elt te)
    (fold : ∀ x, foldedSetIterable iter X.env x = pure x := by intro _; rfl) :
    PE X (.SetComp elt [⟨tg, iter, ifs, 0⟩] scope pos) (tSk P w wi g tt te (own.map (·.2))) := by
  subst hp
  subst hw
  refine ⟨fun pins s0 σ H Q I0 want => ?_⟩
  rw [eval_SetComp]
  have caught : ∀ y ∈ scope.names, y.2 = .free → ∃ c, X.env.cells.lookup y.1 = some c := fun y hy e => (ok.free y hy e).elim (fun z => I0.ok.has _ (.inl z)) fun z => I0.ok.has _ (.inr z)
  refine wpAny_comprehension_free rfl fold (closure_ok caught) ok.kind (fun y hy e => by rw [ok.uniq y hy, e]) (thn (hi.run pins s0 σ H _ I0 want) fun _ s1 found => thn found fun _ s2 got => ?_)
  obtain ⟨it, fp, tn, J, G0, rfl, I2, T, here, seat, want2⟩ := got
  refine newSet_ok (newEnv_comp ?_)
  obtain ⟨d, ed⟩ : ∃ d, d = s2.heap.objs.size := ⟨_, rfl⟩
  have free_d : G0 d = none := I2.hok.fresh (Nat.le_of_eq ed.symm)
  obtain ⟨W, ⟨m0, w0⟩, turn⟩ := want2 d free_d
  obtain ⟨G1, eG1⟩ : ∃ G1, G1 = upd G0 d (SetK X.prog X.w d (fun _ => false) 0) := ⟨_, rfl⟩
  rw [← eG1] at w0
  obtain ⟨s3, es3⟩ : ∃ s3 : Shared, s3 = { s2 with heap := s2.heap.push (bareK X.w) } := ⟨_, rfl⟩
  have hp3 : s3.heap = s2.heap.push (bareK X.w) := by rw [es3]
  have kept3 : ∀ b o, s2.heap.get? b = some o → s3.heap.get? b = some o := fun b o e => by rw [hp3]; exact Heap.get?_push_of_some _ e
  have I3 : Inv X pins σ G1 s3 := by
    rw [es3, eG1]
    refine I2.laid (t' := s2.toks) (fun b o e => Heap.get?_push_of_some _ e) (Nat.le_of_eq ed.symm) ?_
    rw [ed]
    exact setK_new ⟨_, #[], 0, _, Heap.get?_push_size _ rfl, ⟨rfl, rfl, rfl⟩, rfl, (fun e he => by simp at he), (fun k => by simp), (by decide), (by rfl), rfl⟩
  have low : ∀ b ∈ fp, b < s2.heap.objs.size := fun b hb => (T.obj _ _ here b hb).elim fun o k => Heap.lt_size k.1
  have seat3 : ∀ b ∈ fp, FpOk X pins G1 b ∧ b < s3.heap.objs.size := fun b hb => by
    refine ⟨⟨?_, (seat b hb).2⟩, ?_⟩
    · rw [eG1, upd_ne (by rw [ed]; exact Nat.ne_of_lt (low b hb))]
      exact (seat b hb).1
    · rw [hp3, Heap.size_push]
      exact Nat.lt_succ_of_lt (low b hb)
  have here3 : tn 0 s3.heap := T.keep _ _ _ here fun b _ o e => kept3 b o e
  have I4 := block_start I3 ok nd seat3
  obtain ⟨cs, ecs⟩ : ∃ cs, cs = cellsFrom (s3.heap.objs.size + 1) scope.names (cloFrom X.env.cells scope.names []) := ⟨_, rfl⟩
  have pg := hg s3 G1 s3.heap.objs.size cs fp
  have pt := ht s3 G1 s3.heap.objs.size cs fp
  have pe := he s3 G1 s3.heap.objs.size cs fp
  rw [← ecs] at I4
  obtain ⟨ce, ece⟩ : ∃ ce, ce = compEnvC scope cs s3.heap.objs.size X.env := ⟨_, rfl⟩
  have locs : ce.locals = s3.heap.objs.size := by rw [ece]; rfl
  rw [← ece] at I4 pg pt pe
  obtain ⟨s4, es4⟩ : ∃ s4 : Shared, s4 = { s3 with heap := pushCells (s3.heap.push { cls := .type "dict", data := .dict #[] }) scope.names } := ⟨_, rfl⟩
  rw [← es4] at I4
  have here4 : tn 0 s4.heap := T.keep _ _ _ here3 fun b _ o e => by rw [es4]; exact pushCells_keeps _ _ _ _ (Heap.get?_push_of_some _ e)
  have none3 : ∀ b ∈ fp, G1 b = none := fun b hb => (seat3 b hb).1.1
  generalize hR : (compPost (model X.prog X.w) X.A X.xe none (EP X pins σ Q) (.ref d) s3.heap.objs.size : Result → Shared → Prop) = R
  suffices loop : codeAny (model X.prog X.w) X.A (.compLoop (.SetComp elt [⟨tg, iter, ifs, 0⟩] scope pos) 0 (.ref it) (.ref d) ce) R s4 by
    have start := codeAny_compStart_set loop (T.self X.A 0 _ _ _ here4 loop)
    rw [← hR, es4, ece, ecs, es3, ed] at start
    exact start
  have pinned : ∀ {σ' : L2.St} {G' : Hp} {s' : Shared}, Inv (X.blk s3 G1 scope ce fp) [] σ' G' s' → (∀ b ∈ fp, G' b = none) → ∀ b ∈ fp, FpOk (X.blk s3 G1 scope ce fp) [] G' b := fun I' hn b hb =>
    ⟨hn b hb, (I'.ok.exf b hb).1, I'.ok.exfs b hb, .inl hb, fun x c e => (I'.ok.exf b hb).2 x c e, fun p hp => absurd (show p ∈ ([] : List (Addr × Obj)) ++ [] from hp) (by simp)⟩
  subst hR
  refine compLoopS_any (fun n t => ∃ i G, Inv (X.blk s3 G1 scope ce fp) [] (wipe σ (own.map (·.2))) G t ∧ tn i t.heap ∧ (∀ b ∈ fp, G b = none) ∧ W i n G) ?_ m0 ⟨0, G1, I4, here4, none3, w0⟩
  rintro n s5 ⟨i, G5, I5, here5, none5, w5⟩
  rcases turn i n G5 w5 with ⟨stop, over⟩ | ⟨go, Nx, next, step⟩
  · refine thnF (T.done (X.blk s3 G1 scope ce fp) rfl rfl rfl calm i [] s5 _ G5 (fun _ _ => False) I5 (pinned I5 none5) here5 stop) fun r s6 fin => ?_
    obtain ⟨rfl, I6⟩ := fin
    have J6 : Inv X pins σ G5 s6 := I3.call' (ch := fp) I6.os I6.base I6.hok I6.bare fun b hb => by
      obtain ⟨⟨_, a1, a2, a3, a4, a5⟩, _⟩ := seat3 b hb
      exact ⟨a3, a1, a4, a5⟩
    obtain ⟨mm, named, _⟩ := I6.loc
    have named : s6.heap.Ns ce.locals mm := named
    have gone : G5 ce.locals = none := I6.free
    rw [locs] at named gone
    obtain ⟨b0, b1, b2, b3, b4, b5⟩ := I3.fpOk (Nat.le_refl _) gone
    refine ⟨mm, named, fun hh sb => ?_⟩
    exact ⟨.ref d, G5, J6.turned (t' := s6.toks) (fun b o hb e => (sb.2 b hb).trans e) b0 b1 b3 b4 b5, rfl, over⟩
  · refine thnF (T.item (X.blk s3 G1 scope ce fp) rfl rfl rfl calm i [] s5 _ G5 (fun _ _ => False) I5 (pinned I5 none5) here5 go) fun r s6 item => ?_
    obtain ⟨u, rfl, item⟩ := item
    refine thnF item fun _ s7 ⟨x, G7, I7, rx, yx, here7, none7⟩ => ?_
    have P7 := I7.pinned (pinned I7 none7) (T.obj _ _ here7)
    refine thnF (pg.run _ s7 _ G7 x u _ P7 rx (step x G7 yx)) fun _ s8 ⟨σ8, G8, I8, same8, want8⟩ => ?_
    refine thnF (pt.run _ s8 σ8 G8 _ I8 want8) fun b s9 ⟨G9, I9, want9⟩ => ?_
    have close : ∀ (t : Shared) (G' : Hp), Inv (X.blk s3 G1 scope ce fp) ([] ++ pinsAt fp s7.heap) σ8 G' t → Nx G' → ∃ m, m < n ∧ ∃ i G, Inv (X.blk s3 G1 scope ce fp) [] (wipe σ (own.map (·.2))) G t ∧ tn i t.heap ∧ (∀ b ∈ fp, G b = none) ∧ W i m G := fun t G' I' nx => by
      obtain ⟨m', less, wn⟩ := next G' nx
      have still : ∀ b ∈ fp, ∀ o, s7.heap.get? b = some o → t.heap.get? b = some o ∧ G' b = none := fun b hb o e => by
        have k := I'.pin (b, o) (List.mem_append_right _ (List.mem_append_right _ (mem_pinsAt hb e)))
        exact ⟨k.1, k.2.1⟩
      have len : (wipe σ (own.map (·.2))).length = σ8.length := (congrArg List.length same8).symm.trans (wipe_length ..)
      refine ⟨m', less, i + 1, G', (I'.unpinned (pins := [])).weak len fun j v e => ?_, T.keep _ _ _ here7 fun b hb o e => (still b hb o e).1, fun b hb => ?_, wn⟩
      · rw [← same8] at e
        exact (wipe_some e).1
      · exact (T.obj _ _ here7 b hb).elim fun o k => (still b hb o k.1).2
    cases b with
    | false => exact close s9 G9 I9 want9
    | true => exact thnF (pe.run _ s9 σ8 G9 _ I9 want9) fun u s10 ⟨y, G10, I10, ry, add⟩ => put_key (X := X.blk s3 G1 scope ce fp) I10 ry add fun s11 G11 I11 nx => close s11 G11 I11 nx
end
theorem rd_sk {P : Program} {w : World} {wi : TI} {g : L2.TG} {tt : TT} {te : TE} {vs : List Nat} {σ : L2.St} {H : Hp} {Q : VK} (q : wi σ H fun J G => Sk P w J g tt te vs σ G Q) : tSk P w wi g tt te vs σ H Q := q
/-- how many different ones among what was put in -/
inductive Dn : List Nat → Nat → Prop
  | nil : Dn [] 0
  | old {ks : List Nat} {c k : Nat} : Dn ks c → k ∈ ks → Dn (ks ++ [k]) c
  | new {ks : List Nat} {c k : Nat} : Dn ks c → k ∉ ks → Dn (ks ++ [k]) (c + 1)
theorem Dn.le {ks : List Nat} {c : Nat} (h : Dn ks c) : c ≤ ks.length := by
  induction h with
  | nil => exact Nat.le_refl _
  | old _ _ ih => rw [List.length_append]; omega
  | new _ _ ih => rw [List.length_append]; exact Nat.succ_le_succ ih
theorem Dn.pos {ks : List Nat} {c : Nat} (h : Dn ks c) : ks ≠ [] → 1 ≤ c := by
  induction h with
  | nil => intro k; exact absurd rfl k
  | old h m ih => intro _; exact ih fun e => by rw [e] at m; exact (List.not_mem_nil m).elim
  | new _ _ ih => intro _; exact Nat.succ_le_succ (Nat.zero_le _)
theorem Dn.few {ks : List Nat} {c : Nat} (h : Dn ks c) : c < 2 ↔ ∀ x ∈ ks, ∀ y ∈ ks, x = y := by
  induction h with
  | nil => exact ⟨fun _ x hx => (List.not_mem_nil hx).elim, fun _ => by decide⟩
  | @old ks c k h m ih =>
    rw [ih]
    refine ⟨fun a x hx y hy => ?_, fun a x hx y hy => a x (List.mem_append_left _ hx) y (List.mem_append_left _ hy)⟩
    have g : ∀ z ∈ ks ++ [k], z ∈ ks := fun z hz => (List.mem_append.mp hz).elim id fun e => by rw [List.mem_singleton.mp e]; exact m
    exact a x (g x hx) y (g y hy)
  | @new ks c k h n ih =>
    refine ⟨fun lt => ?_, fun a => ?_⟩
    · by_cases e : ks = []
      · rw [e]
        intro x hx y hy
        rw [List.nil_append] at hx hy
        rw [List.mem_singleton.mp hx, List.mem_singleton.mp hy]
      · have := h.pos e
        omega
    · by_cases e : ks = []
      · rw [e] at h
        have := h.le
        rw [List.length_nil] at this
        omega
      · obtain ⟨x, hx⟩ := List.exists_mem_of_ne_nil ks e
        have := a x (List.mem_append_left _ hx) k (by simp)
        exact absurd (by rw [← this]; exact hx) n
def keyC (k : Nat) : Key := .inr (one k)
def inK (ks : List Nat) : Key → Bool := fun j => ks.any fun k => decide (j = keyC k)
theorem keyC_inj {a b : Nat} (h : keyC a = keyC b) : a = b := sgn_inj (Sum.inr.inj h)
/-- one-character texts; Pv tells what was put in so far, in order, perhaps twice -/
theorem sk_it {P : Program} {w : World} {J : It} {n : Nat} {G : Hp → Prop} {Y : Nat → Hp → V → Hp → Prop} (wk : Walk J n G Y) {g : L2.TG} {tt : TT} {te : TE} {vs : List Nat} {σ : L2.St} {H0 : Hp} {Q : VK} (Pv : Nat → List Nat → Prop) (p0 : Pv 0 []) (sm : ∀ i ks, i ≤ n → Pv i ks → ks.length < 1000) (hG : ∀ H, Same H0 H → G H)
    (hs : ∀ i x H H' ks (Qc : VK) (R : Hp → Prop), i < n → Same H0 H → Pv i ks → Y i H x H' → (∀ k H5, Same H H5 → Pv (i + 1) (ks ++ [k]) → Qc (.str (one k)) H5) → (∀ H3, Same H H3 → Pv (i + 1) ks → R H3) →
      g x (wipe σ vs) H' fun σ2 H2 => wipe σ2 vs = wipe σ vs ∧ tt σ2 H2 fun b H3 => if b = true then te σ2 H3 Qc else R H3)
    (hd : ∀ H d ks c, Same H0 H → H0 d = none → Dn ks c → (∃ S, H d = some (SetK P w d S c)) → Pv n ks → Q (.ref d) H) : Sk P w J g tt te vs σ H0 Q := fun d nd => by
  refine ⟨fun i m H => m = n - i ∧ i ≤ n ∧ Same H0 H ∧ ∃ ks c, Dn ks c ∧ H d = some (SetK P w d (inK ks) c) ∧ Pv i ks, ⟨n, rfl, Nat.zero_le _, same_new (Same.refl _) nd, [], 0, .nil, ?_, p0⟩, ?_⟩
  · rw [upd_same]
    rfl
  rintro i m H ⟨rfl, hi, S, ks, c, hc, hD, p⟩
  have gG := hG H S
  by_cases hlt : i < n
  · refine .inr ⟨wk.goes i H hlt gG, fun H' => i < n ∧ Same H0 H' ∧ ∃ ks c, Dn ks c ∧ H' d = some (SetK P w d (inK ks) c) ∧ Pv (i + 1) ks, fun H' p' => ⟨n - (i + 1), by omega, rfl, hlt, p'.2⟩, fun x H' y => ?_⟩
    refine hs i x H H' ks _ _ hlt S p (wk.yields i H x H' hlt gG y) (fun k H5 S5 pz => ?_) (fun H3 S3 pz => ⟨hlt, S.trans S3, ks, c, hc, S3 _ _ hD, pz⟩)
    have l := sm i ks hi p
    have l2 := hc.le
    have mk : inK ks (keyC k) = true ↔ k ∈ ks := by
      unfold inK
      rw [List.any_eq_true]
      exact ⟨fun ⟨a, ha, e⟩ => by rw [keyC_inj (of_decide_eq_true e)]; exact ha, fun h => ⟨k, h, decide_eq_true rfl⟩⟩
    have room : c + 1 < scanBound := by unfold scanBound; omega
    refine ⟨keyC k, _, c, rfl, S5 _ _ hD, room, hlt, same_mut (S.trans S5) nd, ks ++ [k], (if inK ks (keyC k) = true then c else c + 1), ?_, ?_, pz⟩
    · by_cases z : k ∈ ks
      · rw [if_pos (mk.mpr z)]; exact hc.old z
      · rw [if_neg (fun q => z (mk.mp q))]; exact hc.new z
    · rw [upd_same]
      congr 2
      funext j
      unfold inK
      rw [List.any_append, List.any_cons, List.any_nil, Bool.or_false]
  · have e : i = n := by omega
    subst e
    exact .inl ⟨wk.stops H gG, hd H d ks c S nd hc ⟨_, hD⟩ p⟩
/-- len(s), s a set of texts -/
def rLenSK (P : Program) (w : World) : List V → Hp → VK → Prop := fun xs H Q => ∃ (a : Addr) (S : Key → Bool) (n : Nat), xs = [.ref a] ∧ H a = some (SetK P w a S n) ∧ Q (.int n) H
theorem call_lenSK {X : Cx} : CallR X (.builtin "len") (rLenSK X.prog X.w) := by
  intro pins s σ H xs us Q I r h
  obtain ⟨a, S, n, rfl, ha, q⟩ := h
  rw [Vals.ref1 r]
  obtain ⟨o, es, ep, t, ho, hex, hd, _, _, lt, hf, hn⟩ := setK_get I ha
  refine call_len_set ho hex hd hf (by unfold scanBound at lt; omega) ⟨.int n, H, I.tok _, ⟨_, by rw [hn]⟩, q⟩
theorem rd_lenSK {P : Program} {w : World} {H : Hp} {Q : VK} {a : Addr} {n : Nat} (h : ∃ S, H a = some (SetK P w a S n)) (q : Q (.int n) H) : rLenSK P w [.ref a] H Q := by
  obtain ⟨S, h⟩ := h
  exact ⟨a, S, n, rfl, h, q⟩
end Rv
/-! plans in the heap: what an obstacle is -/
namespace Rv
open PySem PySem.Spec PyProof.Rows L2 RL RQ RV
section
variable {H : Hp} {K : PySem.W.Frag} {Q : VK} {p p2 : Addr} {a b : List Int}
theorem rd_eqI (h : TG H p a) (h2 : TG H p2 b) (q : Q (.bl (decide (a = b))) H) : rEqD K (.ref p) (.ref p2) H Q := ⟨_, _, h.dp, h2.dp, shT _, shT _, by rw [eqv_intsT]; exact q⟩
end
def crowd (es fs : List Int) : Prop := es.count (-1) = 1 ∧ rngs es fs ≠ []
instance {es fs : List Int} : Decidable (crowd es fs) := by unfold crowd; exact inferInstance
def mono (es : List Int) : Prop := ∀ x ∈ es, ∀ y ∈ es, x ≠ -1 → y ≠ -1 → sg x = sg y
instance {es : List Int} : Decidable (mono es) := by unfold mono; exact inferInstance
def vdt (es fs : List Int) : Nat := if es = fs then 0 else if -1 ∉ es then 1 else if codes es = codes fs then 2 else if ¬ crowd es fs then 0 else if mono es then 3 else 4
def RsnAt (H : Hp) (p : Addr) (k : Nat) (es fs : List Int) : Prop :=
  (k = 1 ∧ H p = some (.tup [.str (Str.ofString "full")])) ∨ (k = 2 ∧ H p = some (.tup [.str (Str.ofString "alike")])) ∨ (k = 3 ∧ ∃ t bs, H p = some (.tup [.str (Str.ofString "rings"), .ref t]) ∧ H t = some (.tup (bs.map V.ref)) ∧ NRows H bs (rngs es fs))
/-- what obstacle does -/
structure ObQ (K : PySem.W.Frag) (H : Hp) (Q : VK) (E : XK) (es fs : List Int) : Prop where
  q0 : vdt es fs = 0 → ∀ H', Same H H' → Q .non H'
  q1 : ∀ k, vdt es fs = k → k ≠ 0 → k ≠ 4 → ∀ H' p, Same H H' → RsnAt H' p k es fs → Q (.ref p) H'
  q4 : vdt es fs = 4 → ∀ H' d t bs, Same H H' → H' d = some (.xd [("rings", .ref t)]) → H' t = some (.tup (bs.map V.ref)) → NRows H' bs (rngs es fs) → E (.ref (atTop K "Undecided")) (some d) H'
theorem walk_its {cs : List Nat} : Walk (Its (txt cs)) cs.length (fun _ => True) (fun i H v H' => H' = H ∧ ∃ h : i < cs.length, v = .str (one cs[i])) :=
  ⟨fun i _ hi _ => by show i < (txt cs).cps.size; simpa [txt] using hi, fun _ _ => by show (txt cs).cps.size ≤ cs.length; simp [txt], fun i H x H' hi _ q => by
    obtain ⟨e, c, hc, rfl⟩ := q
    refine ⟨e, hi, ?_⟩
    have : (txt cs).cps[i]? = some cs[i] := by simp [txt, hi]
    rw [this] at hc
    cases hc
    rfl⟩
theorem rd_tcC {σ : L2.St} {H : Hp} {Q : VK} {i : Nat} {p : Addr} {gs : List Int} {k : Int} (hv : σ[i]? = some (some (.ref p))) (g : GT H p gs) (q : Q (.int (gs.count k : Nat)) H) : tTc (tVar i) (tC (.int k)) σ H Q := ⟨_, hv, p, gs, rfl, g, k, rfl, g, q⟩
/-- the signs that are no dots -/
def sgns (cs : List Nat) (i : Nat) : List Nat := (cs.take i).filter fun c => !decide (c = 46)
theorem sgns_next {cs : List Nat} {i : Nat} (h : i < cs.length) : sgns cs (i + 1) = sgns cs i ++ if cs[i] = 46 then [] else [cs[i]] := by
  unfold sgns
  rw [take_next h, List.filter_append]
  congr 1
  by_cases z : cs[i] = 46
  · rw [if_pos z, List.filter_cons_of_neg (by rw [decide_eq_true z]; decide)]; rfl
  · rw [if_neg z, List.filter_cons_of_pos (by rw [decide_eq_false z]; decide)]; rfl
theorem sgns_len (cs : List Nat) (i : Nat) : (sgns cs i).length ≤ cs.length := by
  unfold sgns
  have h1 := List.length_filter_le (fun c => !decide (c = 46)) (cs.take i)
  have h2 := List.length_take_le i cs
  have h3 : (cs.take i).length ≤ cs.length := by rw [List.length_take]; exact Nat.min_le_right ..
  omega
theorem mono_dn {es : List Int} (R : Rg es) {c : Nat} (h : Dn (sgns (codes es) (codes es).length) c) : decide (((c : Nat) : Int) < 2) = decide (mono es) := by
  rw [decide_eq_decide]
  have : ((c : Nat) : Int) < 2 ↔ c < 2 := by omega
  rw [this, h.few]
  unfold sgns
  rw [List.take_length]
  have mem : ∀ x, x ∈ (codes es).filter (fun c => !decide (c = 46)) ↔ ∃ e ∈ es, e ≠ -1 ∧ sg e = x := fun x => by
    rw [List.mem_filter]
    unfold codes
    rw [List.mem_map]
    refine ⟨fun ⟨⟨e, he, h1⟩, h2⟩ => ⟨e, he, fun z => ?_, h1⟩, fun ⟨e, he, n, h1⟩ => ⟨⟨e, he, h1⟩, ?_⟩⟩
    · rw [← h1, (sg_46 (R e he)).mpr z] at h2
      exact absurd h2 (by decide)
    · rw [Bool.not_eq_true', decide_eq_false_iff_not, ← h1]
      exact fun k => n ((sg_46 (R e he)).mp k)
  refine ⟨fun a x hx y hy nx ny => a _ ((mem _).mpr ⟨x, hx, nx, rfl⟩) _ ((mem _).mpr ⟨y, hy, ny, rfl⟩), fun a x hx y hy => ?_⟩
  obtain ⟨e1, h1, n1, rfl⟩ := (mem x).mp hx
  obtain ⟨e2, h2, n2, rfl⟩ := (mem y).mp hy
  exact a e1 h1 e2 h2 n1 n2
theorem RsnAt.same {H H' : Hp} {p : Addr} {k : Nat} {es fs : List Int} (h : RsnAt H p k es fs) (S : Same H H') : RsnAt H' p k es fs := by
  rcases h with ⟨e, h⟩ | ⟨e, h⟩ | ⟨e, t, bs, h1, h2, h3⟩
  · exact .inl ⟨e, S _ _ h⟩
  · exact .inr (.inl ⟨e, S _ _ h⟩)
  · exact .inr (.inr ⟨e, t, bs, S _ _ h1, S _ _ h2, TupsAt.same S h3⟩)
/-- a tuple or a list -/
def iOr (w1 w2 : TI) : TI := fun σ H R => w1 σ H R ∨ w2 σ H R
theorem pi_or {X : Cx} {tg e : Expr} {w1 w2 : TI} (h1 : PI X tg e w1) (h2 : PI X tg e w2) : PI X tg e (iOr w1 w2) := ⟨fun pins s σ H R I h => h.elim (h1.run pins s σ H R I) (h2.run pins s σ H R I)⟩
/-- the law's loop from a block: its way if it comes back, else nothing -/
def lpL (es fs : List Int) (i : Nat) : List Nat := if G es fs ((Fo es fs i).getLastD 0) = i ∧ fs.getD ((Fo es fs i).getLastD 0) 0 ≠ -1 then Fo es fs i else []
theorem sgS_one {e : Int} (h : -1 ≤ e ∧ e ≤ 999) : sgS e = one (sg e) := by
  unfold sgS sg
  by_cases z : e = -1
  · rw [if_pos z, if_pos z]; rfl
  · rw [if_neg z, if_neg z]
    obtain ⟨k0, k1⟩ := kind_small (e := e) (by omega) h.2
    exact digit_txtI k0 k1
/-- kinds, and those unlike the first -/
def kinds (es : List Int) : List Int := (es.filter fun e => !decide (e = -1)).map fun e => e.fdiv 100
theorem kinds_len (es : List Int) : (kinds es).length ≤ es.length := by
  unfold kinds
  rw [List.length_map]
  exact List.length_filter_le ..
theorem kinds_next {es : List Int} {i : Nat} (h : i < es.length) : kinds (es.take (i + 1)) = kinds (es.take i) ++ if es[i] = -1 then [] else [es[i].fdiv 100] := by
  unfold kinds
  rw [take_next h, List.filter_append, List.map_append]
  congr 1
  by_cases z : es[i] = -1
  · rw [if_pos z, List.filter_cons_of_neg (by rw [decide_eq_true z]; decide)]; rfl
  · rw [if_neg z, List.filter_cons_of_pos (by rw [decide_eq_false z]; decide)]; rfl
def odd (ks : List Int) (i : Nat) : List Int := (ks.take i).filter fun k => !decide (k = ks.getD 0 0)
theorem odd_len (ks : List Int) (i : Nat) : (odd ks i).length ≤ ks.length := by
  unfold odd
  have h1 := List.length_filter_le (fun k => !decide (k = ks.getD 0 0)) (ks.take i)
  have h3 : (ks.take i).length ≤ ks.length := by rw [List.length_take]; exact Nat.min_le_right ..
  omega
theorem odd_next {ks : List Int} {i : Nat} (h : i < ks.length) : odd ks (i + 1) = odd ks i ++ if ks[i] = ks.getD 0 0 then [] else [ks[i]] := by
  unfold odd
  rw [take_next h, List.filter_append]
  congr 1
  by_cases z : ks[i] = ks.getD 0 0
  · rw [if_pos z, List.filter_cons_of_neg (by rw [decide_eq_true z]; decide)]; rfl
  · rw [if_neg z, List.filter_cons_of_pos (by rw [decide_eq_false z]; decide)]; rfl
theorem sg_fdiv {x y : Int} (h1 : -1 ≤ x ∧ x ≤ 999) (h2 : -1 ≤ y ∧ y ≤ 999) (nx : x ≠ -1) (ny : y ≠ -1) : sg x = sg y ↔ x.fdiv 100 = y.fdiv 100 := by
  unfold sg
  rw [if_neg nx, if_neg ny]
  obtain ⟨a0, a1⟩ := kind_small (e := x) (by omega) h1.2
  obtain ⟨b0, b1⟩ := kind_small (e := y) (by omega) h2.2
  omega
theorem mono_odd {es : List Int} (I : Rg es) : decide (odd (kinds es) (kinds es).length = []) = decide (mono es) := by
  rw [decide_eq_decide]
  unfold odd
  rw [List.take_length, List.filter_eq_nil_iff]
  have mem : ∀ k, k ∈ kinds es ↔ ∃ e ∈ es, e ≠ -1 ∧ e.fdiv 100 = k := fun k => by
    unfold kinds
    rw [List.mem_map]
    refine ⟨fun ⟨e, he, h⟩ => ?_, fun ⟨e, he, n, h⟩ => ⟨e, List.mem_filter.mpr ⟨he, by simpa using n⟩, h⟩⟩
    obtain ⟨h1, h2⟩ := List.mem_filter.mp he
    exact ⟨e, h1, by simpa using h2, h⟩
  refine ⟨fun a x hx y hy nx ny => ?_, fun a k hk => ?_⟩
  · have h1 := a _ ((mem _).mpr ⟨x, hx, nx, rfl⟩)
    have h2 := a _ ((mem _).mpr ⟨y, hy, ny, rfl⟩)
    simp only [Bool.not_eq_true', decide_eq_false_iff_not, Classical.not_not] at h1 h2
    exact (sg_fdiv (I x hx) (I y hy) nx ny).mpr (h1.trans h2.symm)
  · have h0 : (kinds es).getD 0 0 ∈ kinds es := mem_at (List.length_pos_of_mem hk)
    obtain ⟨x, hx, nx, e1⟩ := (mem k).mp hk
    obtain ⟨y, hy, ny, e2⟩ := (mem _).mp h0
    have := (sg_fdiv (I x hx) (I y hy) nx ny).mp (a x hx y hy nx ny)
    rw [e1, e2] at this
    rw [this]
    simp
theorem lp_new {es fs : List Int} (R : Ren es fs) {i0 : Nat} {p : List Nat} (P : Pth (G es fs) es.length i0 p) (n : fs.getD (p.getLastD 0) 0 ≠ -1) (z : G es fs (p.getLastD 0) ≠ i0) : G es fs (p.getLastD 0) ∉ p := fun m => by
  obtain ⟨j, hj⟩ := List.getElem?_of_mem m
  have lj := (List.getElem?_eq_some_iff.mp hj).1
  have ll := P.lt _ (last_mem P.ne)
  have t1 := R.to ll n
  cases j with
  | zero =>
    rw [P.hd] at hj
    exact z (Option.some.inj hj).symm
  | succ j =>
    have h1 : p[j]? = some p[j] := List.getElem?_eq_getElem (by omega)
    have st := P.st j _ _ h1 hj
    have A := way_ar R P h1 hj
    have e : fs.getD p[j] 0 = fs.getD (p.getLastD 0) 0 := A.eq.trans t1.2
    have e2 := R.injF (P.lt _ (List.getElem_mem _)) ll e A.fu
    have la := last_at P.ne
    rw [← e2] at la
    have := nd_inj P.nd h1 la
    omega
theorem NRows.upd {H : Hp} {bs : List Addr} {ps : List (List Nat)} {D : Addr} {xs : List V} {o : HO} (t : NRows H bs ps) (h : H D = some (.lst xs)) : NRows (L2.upd H D o) bs ps := TupsAt.mut h t
/-- what the law is due: 0 nothing, 1 a reason, 2 undecided -/
def DueAt (H : Hp) (k : Nat) (p : Addr) (es fs : List Int) : Prop :=
  (k = 0 ∧ vdt es fs = 0) ∨ (k = 1 ∧ ∃ v, vdt es fs = v ∧ v ≠ 0 ∧ v ≠ 4 ∧ RsnAt H p v es fs) ∨ (k = 2 ∧ vdt es fs = 4 ∧ ∃ bs, H p = some (.tup (bs.map V.ref)) ∧ NRows H bs (rngs es fs))
def rowD (p : List Nat) : PyData := .tuple ((niz p).map PyData.int)
theorem dp_rws {K : PySem.W.Frag} {H : Hp} : ∀ {bs : List Addr} {ps : List (List Nat)}, NRows H bs ps → DpAll K H (bs.map V.ref) (ps.map rowD)
  | [], [], _ => .nil
  | [], p :: ps, t => by have := t.1; simp at this
  | b :: bs, [], t => by have := t.1; simp at this
  | b :: bs, p :: ps, t => by
    obtain ⟨q, e1, e2⟩ := t.2 0 (nvs p) rfl
    cases e1
    exact .cons (.tup (SqT.of e2) (dp_ints (niz p))) (dp_rws ⟨by have := t.1; simpa using this, fun i vs e => t.2 (i + 1) vs e⟩)
theorem sh_rows (ps : List (List Nat)) : Sh 2 (.list (ps.map rowD)) := Sh.list fun d hd => by
  obtain ⟨p, _, rfl⟩ := List.mem_map.mp hd
  exact Sh.tuple fun d hd => by
    obtain ⟨x, _, rfl⟩ := List.mem_map.mp hd
    exact Sh.int x
theorem rd_eqRN {K : PySem.W.Frag} {H : Hp} {Q : VK} {p p2 : Addr} {bs : List Addr} {ps : List (List Nat)} (h : H p = some (.lst (bs.map V.ref))) (t : NRows H bs ps) (h2 : H p2 = some (.lst [])) (q : Q (.bl (decide (ps = []))) H) : rEqD K (.ref p) (.ref p2) H Q := by
  refine ⟨_, _, .lst (SqL.of h) (dp_rws t), .lst (SqL.of h2) .nil, (sh_rows ps).shaped (by decide), by decide, ?_⟩
  cases ps with
  | nil => exact q
  | cons x r => exact q
/-- the lines of a staircase -/
def stairL : List Int → List (Nat × Nat) → List Ln
  | _, [] => []
  | g, (t, s) :: ms => ⟨sMove, t, s, codes g⟩ :: stairL (mv g t s) ms
/-- how far a climb is after some moves -/
structure Hlf (es fs : List Int) (ms : List (Nat × Nat)) (i : Nat) (g : List Int) (V : List (List Nat)) : Prop where
  rest : ∃ V', climb g V (ms.drop i) fs V'
  ls : (stairL es ms).drop i = stairL g (ms.drop i)
  len : g.length = es.length
  rg : Rg g
  vs : V.length = i + 1 ∧ V.getLast? = some (codes g)
theorem inV_txts {c : List Nat} {Vw : List (List Nat)} : inV (.str (txt c)) (Vw.map fun c => V.str (txt c)) = decide (c ∈ Vw) := by
  unfold inV
  rw [List.any_map]
  have e : ((fun y => eqV y (.str (txt c))) ∘ fun c => V.str (txt c)) = fun n : List Nat => decide (txt n = txt c) := by
    funext n
    rfl
  rw [e, Bool.eq_iff_iff, List.any_eq_true, decide_eq_true_eq]
  exact ⟨fun ⟨x, h1, h2⟩ => by rw [← txt_inj (of_decide_eq_true h2)]; exact h1, fun h => ⟨c, h, decide_eq_true rfl⟩⟩
theorem txts_flat (Vw : List (List Nat)) : (Vw.map fun c => V.str (txt c)).all flatV = true := by
  rw [List.all_eq_true]
  intro x hx
  obtain ⟨y, _, rfl⟩ := List.mem_map.mp hx
  rfl
theorem set_mv (g : List Int) (t s : Nat) : ((g.map V.int).set t (V.int (g.getD s 0))).set s (V.int (-1)) = (mv g t s).map V.int := by
  unfold mv
  rw [List.map_set, List.map_set]
end Rv
/-! plans in the heap: staircases -/
namespace Rv
open PySem PySem.Spec PyProof.Rows L2 RL RQ RV
end Rv
/-! list(zip(a, b)) of two lists -/
namespace Rv
open PySem PySem.Spec PyProof.Rows L2 RZ
section
variable {X : Cx} {pins : List (Addr × Obj)} {σ : L2.St} {A1 : Around} {a b q z TI TO i1 i2 : Addr} {xs ys : List V} {H0 : Hp} {Rs : Result → Shared → Prop}
end
section
variable {X : Cx}
end
end Rv
/-! rows of block numbers: min, remove, sorted, in; xs[::-1]; zip of a way with what follows -/
namespace Rv
open PySem PySem.Spec PyProof.Rows L2 RL RQ RV
section
variable {X : Cx} {K : PySem.W.Frag} {H : Hp} {Q : VK}
/-! xs[::-1] -/
theorem NRows.get {bs : List Addr} {ps : List (List Nat)} (t : NRows H bs ps) {i : Nat} {b : Addr} (h : bs[i]? = some b) : ∃ p, ps[i]? = some p ∧ H b = some (.tup (nvs p)) := by
  have lb := NRows.len t
  have hi := (List.getElem?_eq_some_iff.mp h).1
  obtain ⟨a, e1, e2⟩ := NRows.at t (List.getElem?_eq_getElem (show i < ps.length by omega))
  rw [h] at e1
  cases e1
  exact ⟨_, List.getElem?_eq_getElem (by omega), e2⟩
theorem NRows.mk {bs : List Addr} {ps : List (List Nat)} (l : bs.length = ps.length) (h : ∀ (i : Nat) b p, bs[i]? = some b → ps[i]? = some p → H b = some (.tup (nvs p))) : NRows H bs ps := ⟨by rw [List.length_map]; exact l, fun i vs e => by
  rw [List.getElem?_map] at e
  cases ep : ps[i]? with
  | none => rw [ep] at e; cases e
  | some p =>
    rw [ep] at e
    cases e
    have hi := (List.getElem?_eq_some_iff.mp ep).1
    have eb : bs[i]? = some bs[i] := List.getElem?_eq_getElem (by omega)
    exact ⟨_, eb, h i _ _ eb ep⟩⟩
theorem NRows.drop {bs : List Addr} {ps : List (List Nat)} (t : NRows H bs ps) (i : Nat) : NRows H (bs.drop i) (ps.drop i) := by
  have z := TupsAt.drop t i
  rw [← List.map_drop] at z
  exact z
/-! as data -/
/-! xs.remove(row) -/
/-! row in rows -/
/-! sorted(rows), rows that ascend already -/
theorem lt_rowD (p q : List Nat) : PySem.W.dataLt (rowD p) (rowD q) = decide (niz p < niz q) := by
  have z := PySem.W.dataLt_ints (niz p) (niz q)
  exact z
theorem each_rows {K : PySem.W.Frag} {pins : List (Addr × Obj)} {σ : L2.St} {s : Shared} (I : Inv X pins σ H s) (ek : X.K = K) : ∀ {bs : List Addr} {ps : List (List Nat)} {its : List Value}, NRows H bs ps → Vals (bs.map V.ref) its →
    PySem.W.EachIs (fun v p => ∃ c, v = Value.ref c ∧ H c = some (.tup (nvs p))) its ps ∧ PySem.W.EachIs (fun v p => ∃ as, Reads s.heap v (rowD p) as) its ps
  | [], [], _, _, rv => by cases rv; exact ⟨.nil, .nil⟩
  | [], p :: ps, _, t, _ => by have := NRows.len t; simp at this
  | b :: bs, [], _, t, _ => by have := NRows.len t; simp at this
  | b :: bs, p :: ps, its, t, rv => by
    cases rv with
    | cons r rr =>
      cases r
      obtain ⟨p', e1, e2⟩ := t.get (i := 0) rfl
      cases e1
      have t' : NRows H bs ps := NRows.drop t 1
      obtain ⟨h1, h2⟩ := each_rows I ek t' rr
      obtain ⟨bx, hx⟩ := Dp.reads I (rowD p) (.ref b) (.ref b) (.tup (SqT.of e2) (dp_ints (niz p))) rfl
      exact ⟨.cons ⟨b, rfl, e2⟩ h1, .cons ⟨bx, hx⟩ h2⟩
theorem each_back {H : Hp} : ∀ {out : List Value} {ps : List (List Nat)}, PySem.W.EachIs (fun v p => ∃ c, v = Value.ref c ∧ H c = some (.tup (nvs p))) out ps → ∃ cs : List Addr, NRows H cs ps ∧ Vals (cs.map V.ref) out
  | _, _, .nil => ⟨[], TupsAt.nil, .nil⟩
  | _, _, .cons ⟨c, e, hc⟩ r => by
    obtain ⟨cs, t, rv⟩ := each_back r
    subst e
    refine ⟨c :: cs, NRows.mk (by rw [List.length_cons, List.length_cons, NRows.len t]) fun i b p e1 e2 => ?_, .cons rfl rv⟩
    cases i with
    | zero => cases e1; cases e2; exact hc
    | succ i =>
      obtain ⟨q, e3, e4⟩ := t.get (i := i) e1
      rw [List.getElem?_cons_succ] at e2
      rw [e3] at e2
      cases e2
      exact e4
def rSortR (K : PySem.W.Frag) : List V → Hp → VK → Prop := fun vs H Q => ∃ (a : Addr) (bs : List Addr) (ps : List (List Nat)), vs = [V.ref a] ∧ SqL K H a (bs.map V.ref) ∧ NRows H bs ps ∧ (∀ p ∈ ps, p ≠ []) ∧ ps.Pairwise (fun p q => niz p < niz q) ∧
  ∀ cs, NRows H cs ps → NewL (.lst (cs.map V.ref)) Q H
theorem cr_sortR (hu : X.A.units + 64 < cLine) : CallR X (.builtin "sorted") (rSortR X.K) := by
  intro pins s σ H vs us Q I r h
  obtain ⟨a, bs, ps, rfl, hs, t, ne, pw, q⟩ := h
  obtain ⟨its, rv, hl, hz⟩ := I.list hs
  rw [Vals.ref1 r]
  obtain ⟨h1, h2⟩ := each_rows I rfl t rv
  have lb := NRows.len t
  rw [List.length_map] at hz
  have al : ∀ p q : List Nat, PySem.W.alike (rowD p) (rowD q) = true := fun p q => by
    unfold rowD
    simp only [PySem.W.alike]
    exact PySem.W.alike_ints (niz p) (niz q)
  have ms : ps.mergeSort (PySem.W.dataLe false rowD) = ps := List.mergeSort_of_pairwise (pw.imp fun {p q} h => by
    show (!PySem.W.dataLt (rowD q) (rowD p)) = true
    rw [lt_rowD, Bool.not_eq_true', decide_eq_false_iff_not]
    exact List.lt_asymm h)
  refine PySem.W.sorted_data (enc := rowD) (bs := ps) hl.isList h1 h2 (PySem.W.AllAlike.of al) (.inl fun d hd => ?_) (by omega) (fun b _ => ?_) fun out lo eo => ?_
  · obtain ⟨p, hp, rfl⟩ := List.mem_map.mp hd
    cases p with
    | nil => exact absurd rfl (ne _ hp)
    | cons x p => exact ⟨_, _, rfl⟩
  · show X.A.units + 2 + (rowD b).depth < cLine
    have : (rowD b).depth = 1 := by
      unfold rowD
      simp only [PyData.depth]
      rw [PySem.W.depth_ints]
    omega
  · rw [ms] at eo
    obtain ⟨cs, tc, rc⟩ := each_back eo
    obtain ⟨ep, he'⟩ := PyProof.Rows.sortedAll_at s.heap its out.toArray
    have lc := NRows.len tc
    exact ⟨.ref _, upd H (s.heap.objs.size + 1) (.lst (cs.map V.ref)), I.laid (t' := s.toks) (fun _ _ => PyProof.Rows.sortedAll_old) (Nat.le_succ _) ⟨by rw [List.length_map]; omega, out, ep, rc, he'⟩, rfl, q cs tc _ (I.hok.fresh (Nat.le_succ _))⟩
theorem rd_sortR {a : Addr} {bs : List Addr} {ps : List (List Nat)} (h : H a = some (.lst (bs.map V.ref))) (t : NRows H bs ps) (ne : ∀ p ∈ ps, p ≠ []) (pw : ps.Pairwise fun p q => niz p < niz q) (q : ∀ cs, NRows H cs ps → NewL (.lst (cs.map V.ref)) Q H) : rSortR K [.ref a] H Q := ⟨a, bs, ps, rfl, SqL.of h, t, ne, pw, q⟩
end
theorem rngs_len {es fs : List Int} (R : Ren es fs) {x : List Nat} (h : x ∈ rngs es fs) : x.length ≤ es.length := by
  unfold rngs at h
  obtain ⟨b, hb, rfl⟩ := List.mem_map.mp h
  obtain ⟨P, _⟩ := fo_p R (mem_tops.mp hb).1
  exact P.len
end Rv
/-! the moves of a plan: what is known when they are made -/
namespace Rv
open PySem PySem.Spec PyProof.Rows L2 RL RQ RV
def emI (es : List Int) (n : Nat) : List Nat := (List.range n).filter fun b => decide (es.getD b 0 = -1)
structure MvOk (es fs : List Int) (w0 : List Nat) (cs rs : List (List Nat)) : Prop where
  w1 : w0 ≠ []
  w2 : w0.length ≤ 14
  c1 : ∀ c ∈ cs, c ≠ [] ∧ c.length ≤ 12
  c2 : cs.length ≤ 12
  r1 : ∀ r ∈ rs, r ≠ []
  r2 : rs.flatten.length ≤ 12
  r3 : rs.length ≤ 12
  p1 : rs = [] → Planned es fs (along w0 ++ cs.flatMap along)
  p2 : rs ≠ [] → (∃ x ∈ emI es es.length, x ≠ w0.getD 0 0) ∧ ∀ sp, sp < es.length → es.getD sp 0 = -1 → sp ≠ w0.getD 0 0 → Planned es fs (around_moves rs sp (along w0) ++ cs.flatMap along)
theorem rngs_few {es fs : List Int} : (rngs es fs).length ≤ es.length := by
  have := List.length_filter_le (fun b => decide (IsR (G es fs) (Fo es fs b))) (List.range es.length)
  rw [List.length_range] at this
  unfold rngs tops
  rw [List.length_map]
  exact this
end Rv
/-! reasons compared; what the law asks -/
namespace Rv
open PySem PySem.Spec PyProof.Rows L2 RL RQ RV
abbrev sFull : Str := Str.ofString "full"
abbrev sAlike : Str := Str.ofString "alike"
abbrev sRings : Str := Str.ofString "rings"
section
variable {K : PySem.W.Frag} {H : Hp} {Q : VK} {es fs : List Int} {p t : Addr} {k : Nat}
/-- two lists of the same rows -/
theorem rd_eqRR {bs cs : List Addr} {ps : List (List Nat)} (h : H p = some (.lst (bs.map V.ref))) (t1 : NRows H bs ps) (h2 : H t = some (.lst (cs.map V.ref))) (t2 : NRows H cs ps) (q : Q (.bl true) H) : rEqD K (.ref p) (.ref t) H Q :=
  ⟨_, _, .lst (SqL.of h) (dp_rws t1), .lst (SqL.of h2) (dp_rws t2), (sh_rows ps).shaped (by decide), (sh_rows ps).shaped (by decide), by rw [SeqAt.eqv_refl _ (sh_rows ps).l]; exact q⟩
end
/-- the rows of the rings ascend -/
theorem rngs_pw {es fs : List Int} (R : Ren es fs) : (rngs es fs).Pairwise fun p q => niz p < niz q := by
  unfold rngs
  rw [List.pairwise_map]
  refine List.Pairwise.imp_of_mem (fun {b c} hb hc h => ?_) (pw_range es.length fun b => decide (IsR (G es fs) (Fo es fs b)))
  have hb2 := (mem_tops.mp (show b ∈ tops es fs es.length from hb)).1
  have hc2 := (mem_tops.mp (show c ∈ tops es fs es.length from hc)).1
  obtain ⟨P, _⟩ := fo_p R hb2
  obtain ⟨P2, _⟩ := fo_p R hc2
  have h1 := P.hd
  have h2 := P2.hd
  cases e1 : Fo es fs b with
  | nil => rw [e1] at h1; cases h1
  | cons x r =>
    cases e2 : Fo es fs c with
    | nil => rw [e2] at h2; cases h2
    | cons y s =>
      rw [e1] at h1
      rw [e2] at h2
      cases h1
      cases h2
      show ((b : Int) :: niz r) < ((c : Int) :: niz s)
      exact List.Lex.rel (by omega)
theorem rngs_ne {es fs : List Int} (R : Ren es fs) : ∀ p ∈ rngs es fs, p ≠ [] := fun p hp e => by
  unfold rngs at hp
  obtain ⟨b, hb, rfl⟩ := List.mem_map.mp hp
  have h := (fo_p R (mem_tops.mp hb).1).1.hd
  rw [e] at h
  cases h
abbrev wObs : Str := Str.ofString "obstacle"
abbrev wPlan : Str := Str.ofString "plan"
abbrev wFew : Str := Str.ofString "fewest"
def Word (s : Str) : Prop := s = wObs ∨ s = wPlan ∨ s = wFew
/-- what is asked of a pair that is right -/
structure AskQ (H : Hp) (Q : VK) (s : Str) (es fs : List Int) : Prop where
  w : Word s
  g0 : vdt es fs = 0 → (s = wObs → ∀ H' l, Same H H' → H' l = some (.lst [.int 0, .non]) → Q (.ref l) H') ∧
    (s = wPlan → ∀ H' l p ps ms, Same H H' → H' l = some (.lst [.int 0, .ref p]) → H' p = some (.lst (ps.map V.ref)) → TupsAt H' ps (rows (stairL es ms)) → Planned es fs ms → Q (.ref l) H') ∧
    (s = wFew → ∀ H' l, Same H H' → H' l = some (.lst [.int 0, .int (((mvA es fs es.length).length + (rngs es fs).length : Nat) : Int)]) → Q (.ref l) H')
  g1 : ∀ k, vdt es fs = k → k ≠ 0 → k ≠ 4 → ∀ H' l p, Same H H' → H' l = some (.lst [.int (if s = wObs then 0 else 1), .ref p]) → RsnAt H' p k es fs → Q (.ref l) H'
  g4 : vdt es fs = 4 → ∀ H' l t bs, Same H H' → H' l = some (.lst [.int 2, .ref t]) → H' t = some (.tup (bs.map V.ref)) → NRows H' bs (rngs es fs) → Q (.ref l) H'
end Rv
/-! the image between: one chain leads to it, chains alone lead from it (k41) -/
namespace Rv
open PySem PySem.Spec PyProof.Rows L2 RL RQ RV
section
variable {es fs : List Int}
end
end Rv
/-! plans one after another, and lines that are executed again (k41) -/
namespace Rv
open PySem PySem.Spec PyProof.Rows L2 RL RQ RV
/-- a script of a plan -/
def Scr (H : Hp) (s : Addr) (g g' : List Int) : Prop := ∃ (ps : List Addr) (ms : List (Nat × Nat)), H s = some (.lst (ps.map V.ref)) ∧ TupsAt H ps (rows (stairL g ms)) ∧ Planned g g' ms ∧ Ren g g' ∧ Img g
/-- plans one after another -/
structure Pls (H : Hp) (ss : List Addr) (gs : List (List Int)) (es fs : List Int) : Prop where
  len : gs.length = ss.length + 1
  hd : gs[0]? = some es
  lt : gs[ss.length]? = some fs
  sc : ∀ (i : Nat) s g g', ss[i]? = some s → gs[i]? = some g → gs[i + 1]? = some g' → Scr H s g g'
  im : ∀ g ∈ gs, Img g ∧ g.length = es.length
/-- what plans does -/
structure PlnQ (K : PySem.W.Frag) (H : Hp) (Q : VK) (E : XK) (es fs : List Int) : Prop where
  n : es ≠ fs → (-1 : Int) ∉ es → ∀ H' d p, Same H H' → H' d = some (.xd [("reason", .ref p)]) → H' p = some (.tup [.str sFull]) → E (.ref (atTop K "NoPlan")) (some d) H'
  y : (es = fs ∨ (-1 : Int) ∈ es) → ∀ H' l ss gs, Same H H' → H' l = some (.lst (ss.map V.ref)) → Pls H' ss gs es fs → ss.length = (if es = fs then 0 else if vdt es fs = 0 then 1 else 2) → Q (.ref l) H'
end Rv
/-! scripts of a plan under crashes (k41) -/
namespace Rv
open PySem PySem.Spec PyProof.Rows L2 RL RQ RV
section
variable {H H' : Hp} {n w pos : Nat} {gf : Nat → List Int} {mf : Nat → List (Nat × Nat)} {x : Addr}
end
/-- images in the heap -/
def ImsG (H : Hp) (xs : List Addr) (gs : List (List Int)) : Prop := xs.length = gs.length ∧ ∀ (i : Nat) x g, xs[i]? = some x → gs[i]? = some g → GT H x g
theorem ImsG.same {H H' : Hp} {xs : List Addr} {gs : List (List Int)} (h : ImsG H xs gs) (S : Same H H') : ImsG H' xs gs := ⟨h.1, fun i x g a b => (h.2 i x g a b).same S⟩
theorem GT.mutL {H : Hp} {a b : Addr} {es : List Int} {xs : List V} {o : HO} (h : GT H a es) (e : H b = some (.lst xs)) : GT (upd H b o) a es := by
  obtain ⟨u, h1, h2⟩ := h
  exact ⟨u, (upd_ne fun k => by rw [k, e] at h1; cases h1).trans h1, h2⟩
theorem ImsG.mut {H : Hp} {b : Addr} {xs : List Addr} {gs : List (List Int)} {vs : List V} {o : HO} (h : ImsG H xs gs) (e : H b = some (.lst vs)) : ImsG (upd H b o) xs gs := ⟨h.1, fun i x g a c => (h.2 i x g a c).mutL e⟩
theorem ImsG.snoc {H : Hp} {xs : List Addr} {gs : List (List Int)} {x : Addr} {g : List Int} (h : ImsG H xs gs) (k : GT H x g) : ImsG H (xs ++ [x]) (gs ++ [g]) := by
  refine ⟨by rw [List.length_append, List.length_append, h.1]; rfl, fun i y k2 a b => ?_⟩
  by_cases hi : i < xs.length
  · rw [List.getElem?_append_left hi] at a
    rw [List.getElem?_append_left (by rw [← h.1]; exact hi)] at b
    exact h.2 i y k2 a b
  · have li := (List.getElem?_eq_some_iff.mp a).1
    rw [List.length_append, List.length_singleton] at li
    have e : i = xs.length := by omega
    subst e
    rw [List.getElem?_append_right (Nat.le_refl _), Nat.sub_self] at a
    rw [h.1, List.getElem?_append_right (Nat.le_refl _), Nat.sub_self] at b
    cases a
    cases b
    exact k
/-- what is asked of a pair that is right -/
structure AskP (H : Hp) (Q : VK) (es fs : List Int) : Prop where
  n : es ≠ fs → (-1 : Int) ∉ es → ∀ H' l p, Same H H' → H' l = some (.lst [.int 1, .ref p]) → H' p = some (.tup [.str sFull]) → Q (.ref l) H'
  y : (es = fs ∨ (-1 : Int) ∈ es) → ∀ H' l m ss gs, Same H H' → H' l = some (.lst [.int 0, .ref m]) → H' m = some (.lst (ss.map V.ref)) → Pls H' ss gs es fs → ss.length = (if es = fs then 0 else if vdt es fs = 0 then 1 else 2) → Q (.ref l) H'
end Rv
/-! images by labels: arrangements, what is reached by moves (k42) -/
namespace RX
open RL
def stepN (n : Nat) (ls row : List Nat) : List (List Nat) := (if row.count 0 < n - ls.length then [row ++ [0]] else []) ++ (ls.filter fun l => !decide (l ∈ row)).map fun l => row ++ [l]
def arrN (n : Nat) (ls : List Nat) : Nat → List (List Nat)
  | 0 => [[]]
  | k + 1 => (arrN n ls k).flatMap (stepN n ls)
def occ (x : List Nat) : List Bool := x.map fun l => l == 0
def gN (c x : List Nat) (b : Nat) : Nat := if x.getD b 0 = 0 then b else c.idxOf (x.getD b 0)
def ringN (c x : List Nat) : Bool := (List.range c.length).any fun b => decide (IsR (gN c x) (F (gN c x) c.length b))
def okN (c x : List Nat) : Bool := decide (c = x) || (decide (0 ∈ c) && !decide (occ c = occ x) && !(decide (c.count 0 = 1) && ringN c x))
def mvN (g : List Nat) (t s : Nat) : List Nat := (g.set t (g.getD s 0)).set s 0
def cellN (g : List Nat) (t s : Nat) : List (List Nat) := if g.getD t 0 = 0 ∧ g.getD s 0 ≠ 0 then [mvN g t s] else []
def mvsN (g : List Nat) : List (List Nat) := (List.range g.length).flatMap fun t => (List.range g.length).flatMap fun s => cellN g t s
abbrev WN := List Nat × List (List Bool)
def addN (V : List (List Bool)) (st : List (List Nat) × List WN) (a : List Nat) : List (List Nat) × List WN :=
  if occ a ∈ V then st else (if a ∈ st.1 then st.1 else st.1 ++ [a], st.2 ++ [(a, V ++ [occ a])])
def oneN (st : List (List Nat) × List WN) (w : WN) : List (List Nat) × List WN := (mvsN w.1).foldl (addN w.2) st
def runN : Nat → Nat → List (List Nat) × List WN → Nat
  | 0, _, st => st.1.length
  | f + 1, i, st => match st.2[i]? with
    | none => st.1.length
    | some w => runN f (i + 1) (oneN st w)
def rchN (g : List Nat) : Nat := runN 200 0 ([g], [(g, [occ g])])
/-- labels from the left -/
def labB : List Bool → Nat → List Nat
  | [], _ => []
  | true :: r, k => 0 :: labB r k
  | false :: r, k => k :: labB r (k + 1)
def pats : Nat → List (List Bool)
  | 0 => [[]]
  | n + 1 => (pats n).flatMap fun p => [true :: p, false :: p]
def ff (n : Nat) : Nat → Nat
  | 0 => 1
  | k + 1 => ff n k * (n - k)
def cgN (n v : Nat) : Nat := if n = v + 1 then ((List.range (v + 1)).map (ff v)).sum else ff n v - ff v v + 1
def lbs (v : Nat) : List Nat := (List.range v).map (· + 1)
def goodP (n : Nat) (p : List Bool) : Bool :=
  let c := labB p 1
  let v := (p.filter (! ·)).length
  decide ((arrN n (lbs v) n).countP (okN c) = cgN n v) && ((decide (n = 5) && decide (1 < v) && decide (v < 4)) || decide (rchN c = cgN n v))
    && (arrN n (lbs v) n).all fun x => x.isPerm c
theorem good_all : (List.range 6).all (fun n => (pats n).all (goodP n)) = true := by decide +kernel
end RX
/-! the same with values: arrangements and what is reached (k42) -/
namespace Rv
open PySem PySem.Spec PyProof.Rows L2 RL RQ RV RX
def stepI (n : Nat) (vals row : List Int) : List (List Int) := (if row.count (-1) < n - vals.length then [row ++ [-1]] else []) ++ (vals.filter fun l => !decide (l ∈ row)).map fun l => row ++ [l]
def arrI (n : Nat) (vals : List Int) : Nat → List (List Int)
  | 0 => [[]]
  | k + 1 => (arrI n vals k).flatMap (stepI n vals)
def cellI (g : List Int) (t s : Nat) : List (List Int) := if g.getD t 0 = -1 ∧ g.getD s 0 ≠ -1 then [mv g t s] else []
def rowI (g : List Int) (t k : Nat) : List (List Int) := (List.range k).flatMap fun s => cellI g t s
def mvsP (g : List Int) (k : Nat) : List (List Int) := (List.range k).flatMap fun t => rowI g t g.length
def mvsI (g : List Int) : List (List Int) := mvsP g g.length
abbrev WI := List Int × List (List Nat)
def addI (V : List (List Nat)) (st : List (List Int) × List WI) (a : List Int) : List (List Int) × List WI :=
  if codes a ∈ V then st else (if a ∈ st.1 then st.1 else st.1 ++ [a], st.2 ++ [(a, V ++ [codes a])])
def oneI (st : List (List Int) × List WI) (w : WI) : List (List Int) × List WI := (mvsI w.1).foldl (addI w.2) st
def runI : Nat → Nat → List (List Int) × List WI → Nat
  | 0, _, st => st.1.length
  | f + 1, i, st => match st.2[i]? with
    | none => st.1.length
    | some w => runI f (i + 1) (oneI st w)
def rchI (g : List Int) : Nat := runI 200 0 ([g], [(g, [codes g])])
structure Lab (f : Nat → Int) (v kd : Nat) : Prop where
  f0 : f 0 = -1
  inj : ∀ a b, f a = f b → a = b
  rg : ∀ l, 1 ≤ l → l ≤ v → -1 ≤ f l ∧ f l ≤ 999 ∧ sg (f l) = 48 + kd
def Le (v : Nat) (x : List Nat) : Prop := ∀ l ∈ x, l ≤ v
section
variable {f : Nat → Int} {v kd : Nat}
theorem Lab.zero (L : Lab f v kd) {l : Nat} : f l = -1 ↔ l = 0 := ⟨fun e => L.inj _ _ (e.trans L.f0.symm), fun e => by rw [e]; exact L.f0⟩
theorem map_at {x : List Nat} {b : Nat} (h : b < x.length) : (x.map f).getD b 0 = f (x.getD b 0) := by
  rw [List.getD_eq_getElem?_getD, List.getElem?_map, List.getElem?_eq_getElem h, RV.getD_getN h]; rfl
theorem Lab.mem (L : Lab f v kd) {x : List Nat} {l : Nat} : f l ∈ x.map f ↔ l ∈ x := by
  rw [List.mem_map]
  exact ⟨fun ⟨a, h, e⟩ => by rw [← L.inj _ _ e]; exact h, fun h => ⟨l, h, rfl⟩⟩
theorem Lab.map_inj (L : Lab f v kd) {x y : List Nat} : x.map f = y.map f ↔ x = y := List.map_inj_right fun a b e => L.inj a b e
theorem Lab.memL (L : Lab f v kd) {xs : List (List Nat)} {x : List Nat} : x.map f ∈ xs.map (List.map f) ↔ x ∈ xs := by
  rw [List.mem_map]
  exact ⟨fun ⟨a, h, e⟩ => by rw [← L.map_inj.mp e]; exact h, fun h => ⟨x, h, rfl⟩⟩
theorem Lab.count (L : Lab f v kd) (l : Nat) : ∀ x : List Nat, (x.map f).count (f l) = x.count l
  | [] => rfl
  | a :: x => by
    rw [List.map_cons, List.count_cons, List.count_cons, L.count l x]
    congr 1
    by_cases e : a = l
    · rw [e]; simp
    · have e2 : f a ≠ f l := fun z => e (L.inj _ _ z)
      simp [e, e2]
theorem Lab.count0 (L : Lab f v kd) (x : List Nat) : (x.map f).count (-1) = x.count 0 := by
  have := L.count 0 x
  rw [L.f0] at this
  exact this
theorem Lab.idx (L : Lab f v kd) (l : Nat) : ∀ x : List Nat, (x.map f).idxOf (f l) = x.idxOf l
  | [] => rfl
  | a :: x => by
    rw [List.map_cons, List.idxOf_cons, List.idxOf_cons, L.idx l x]
    by_cases e : a = l
    · rw [e]; simp
    · have e2 : f a ≠ f l := fun z => e (L.inj _ _ z)
      have h1 : (f a == f l) = false := by simpa using e2
      have h2 : (a == l) = false := by simpa using e
      rw [h1, h2]
def cod (kd : Nat) (p : List Bool) : List Nat := p.map fun b => if b = true then 46 else 48 + kd
theorem cod_inj {p q : List Bool} (h : cod kd p = cod kd q) : p = q := (List.map_inj_right fun a b e => by
  cases a <;> cases b <;> simp at e ⊢ <;> omega).mp h
theorem Lab.cds (L : Lab f v kd) {x : List Nat} (h : Le v x) : codes (x.map f) = cod kd (occ x) := by
  unfold Rv.codes cod occ
  rw [List.map_map, List.map_map]
  refine List.map_congr_left fun l hl => ?_
  show sg (f l) = if (l == 0) = true then 46 else 48 + kd
  by_cases z : l = 0
  · subst z
    rw [L.f0]
    rfl
  · rw [if_neg (by simpa using z)]
    exact (L.rg l (by omega) (h l hl)).2.2
theorem Lab.cdsEq (L : Lab f v kd) {x y : List Nat} (h : Le v x) (k : Le v y) : codes (x.map f) = codes (y.map f) ↔ occ x = occ y := by
  rw [L.cds h, L.cds k]
  exact ⟨cod_inj, fun e => by rw [e]⟩
theorem Lab.cdsV (L : Lab f v kd) {x : List Nat} (h : Le v x) (V : List (List Bool)) : codes (x.map f) ∈ V.map (cod kd) ↔ occ x ∈ V := by
  rw [L.cds h, List.mem_map]
  exact ⟨fun ⟨a, ha, e⟩ => by rw [← cod_inj e]; exact ha, fun ha => ⟨_, ha, rfl⟩⟩
theorem Lab.mono (L : Lab f v kd) {x : List Nat} (h : Le v x) : mono (x.map f) := by
  have one : ∀ e ∈ x.map f, e ≠ -1 → sg e = 48 + kd := fun e he n => by
    obtain ⟨l, hl, rfl⟩ := List.mem_map.mp he
    exact (L.rg l (by have : l ≠ 0 := fun z => n (L.zero.mpr z); omega) (h l hl)).2.2
  exact fun a ha b hb na nb => (one a ha na).trans (one b hb nb).symm
/-! rings -/
theorem fol_congr {g g' : Nat → Nat} {n : Nat} (e : ∀ b, b < n → g b = g' b) (lt : ∀ b, b < n → g b < n) : ∀ (k : Nat) (p : List Nat), p ≠ [] → (∀ x ∈ p, x < n) → fol g k p = fol g' k p
  | 0, p, _, _ => rfl
  | k + 1, p, ne, h => by
    have hl := h _ (last_mem ne)
    show (if g (p.getLastD 0) ∈ p then p else fol g k (p ++ [g (p.getLastD 0)])) = if g' (p.getLastD 0) ∈ p then p else fol g' k (p ++ [g' (p.getLastD 0)])
    rw [← e _ hl, fol_congr e lt k (p ++ [g (p.getLastD 0)]) (by simp) fun x hx => by
      rcases List.mem_append.mp hx with k | k
      · exact h x k
      · rw [List.mem_singleton.mp k]; exact lt _ hl]
theorem fol_lt {g : Nat → Nat} {n : Nat} (lt : ∀ b, b < n → g b < n) : ∀ (k : Nat) (p : List Nat), p ≠ [] → (∀ x ∈ p, x < n) → fol g k p ≠ [] ∧ ∀ x ∈ fol g k p, x < n
  | 0, p, ne, h => ⟨ne, h⟩
  | k + 1, p, ne, h => by
    have hl := h _ (last_mem ne)
    show (if g (p.getLastD 0) ∈ p then p else fol g k (p ++ [g (p.getLastD 0)])) ≠ [] ∧ ∀ x ∈ (if g (p.getLastD 0) ∈ p then p else fol g k (p ++ [g (p.getLastD 0)])), x < n
    split
    · exact ⟨ne, h⟩
    · exact fol_lt lt k _ (by simp) fun x hx => by
        rcases List.mem_append.mp hx with k | k
        · exact h x k
        · rw [List.mem_singleton.mp k]; exact lt _ hl
theorem isR_congr {g g' : Nat → Nat} {n : Nat} (e : ∀ b, b < n → g b = g' b) {p : List Nat} (ne : p ≠ []) (h : ∀ x ∈ p, x < n) : IsR g p ↔ IsR g' p := by
  unfold IsR
  rw [e _ (h _ (last_mem ne))]
theorem Lab.ring (L : Lab f v kd) {c x : List Nat} (pm : x.Perm c) : rngs (c.map f) (x.map f) ≠ [] ↔ ringN c x = true := by
  have ln := pm.length_eq
  have gl : ∀ b, b < c.length → gN c x b < c.length := fun b hb => by
    unfold gN
    by_cases z : x.getD b 0 = 0
    · rw [if_pos z]; exact hb
    · rw [if_neg z]
      have m : x.getD b 0 ∈ x := by
        rw [RV.getD_getN (show b < x.length by omega)]
        exact List.getElem_mem _
      exact List.idxOf_lt_length_iff.mpr (pm.mem_iff.mp m)
  have ge : ∀ b, b < c.length → G (c.map f) (x.map f) b = gN c x b := fun b hb => by
    unfold G gN
    rw [map_at (show b < x.length by omega)]
    by_cases z : x.getD b 0 = 0
    · rw [if_pos z, if_pos (L.zero.mpr z)]
    · rw [if_neg z, if_neg (fun k => z (L.zero.mp k)), L.idx]
  have gl2 : ∀ b, b < c.length → G (c.map f) (x.map f) b < c.length := fun b hb => by rw [ge b hb]; exact gl b hb
  have eF : ∀ b, b < c.length → (IsR (G (c.map f) (x.map f)) (Fo (c.map f) (x.map f) b) ↔ IsR (gN c x) (F (gN c x) c.length b)) := fun b hb => by
    have e1 : Fo (c.map f) (x.map f) b = F (gN c x) c.length b := by
      unfold Fo RL.F
      rw [List.length_map]
      exact fol_congr ge gl2 _ _ (by simp) fun y hy => by rw [List.mem_singleton.mp hy]; exact hb
    have e2 := fol_lt gl c.length [b] (by simp) fun y hy => by rw [List.mem_singleton.mp hy]; exact hb
    rw [e1]
    exact isR_congr ge e2.1 e2.2
  unfold ringN rngs tops
  rw [List.any_eq_true, List.length_map]
  constructor
  · intro h
    rw [Ne, List.map_eq_nil_iff] at h
    obtain ⟨b, hb⟩ := List.exists_mem_of_ne_nil _ h
    obtain ⟨h1, h2⟩ := List.mem_filter.mp hb
    exact ⟨b, h1, decide_eq_true ((eF b (List.mem_range.mp h1)).mp (of_decide_eq_true h2))⟩
  · rintro ⟨b, h1, h2⟩ h
    rw [List.map_eq_nil_iff, List.filter_eq_nil_iff] at h
    exact h b h1 (decide_eq_true ((eF b (List.mem_range.mp h1)).mpr (of_decide_eq_true h2)))
theorem Lab.ok (L : Lab f v kd) {c x : List Nat} (pm : x.Perm c) (hc : Le v c) (hx : Le v x) : vdt (c.map f) (x.map f) = 0 ↔ okN c x = true := by
  have r := L.ring pm
  have k := L.cdsEq hc hx
  have m : (-1 : Int) ∈ c.map f ↔ 0 ∈ c := by rw [← L.f0]; exact L.mem
  have mo := L.mono hc
  have cr : crowd (c.map f) (x.map f) ↔ (c.count 0 = 1 ∧ ringN c x = true) := by unfold crowd; rw [L.count0, r]
  unfold vdt okN
  by_cases e : c = x
  · rw [if_pos (by rw [e]), decide_eq_true e]; simp
  · rw [if_neg (fun z => e (L.map_inj.mp z)), decide_eq_false e, Bool.false_or]
    by_cases e1 : 0 ∈ c
    · rw [if_neg (fun z => z (m.mpr e1)), decide_eq_true e1, Bool.true_and]
      by_cases e2 : occ c = occ x
      · rw [if_pos (k.mpr e2), decide_eq_true e2]; simp
      · rw [if_neg (fun z => e2 (k.mp z)), decide_eq_false e2]
        by_cases e3 : crowd (c.map f) (x.map f)
        · have e4 := cr.mp e3
          rw [if_neg (fun z => z e3), if_pos mo, decide_eq_true e4.1, e4.2]; simp
        · rw [if_pos e3]
          by_cases e4 : c.count 0 = 1
          · have : ringN c x = false := Bool.eq_false_iff.mpr fun z => e3 (cr.mpr ⟨e4, z⟩)
            rw [decide_eq_true e4, this]; simp
          · rw [decide_eq_false e4]; simp
    · rw [if_pos (fun z => e1 (m.mp z)), decide_eq_false e1]; simp
/-! arrangements -/
theorem Lab.step (L : Lab f v kd) (n : Nat) (ls row : List Nat) : stepI n (ls.map f) (row.map f) = (stepN n ls row).map (List.map f) := by
  unfold stepI stepN
  rw [L.count0, List.length_map, List.map_append]
  congr 1
  · split
    · rw [List.map_singleton, List.map_append, List.map_singleton, L.f0]
    · rfl
  · rw [List.filter_map, List.map_map, List.map_map]
    have e : ((fun l => !decide (l ∈ row.map f)) ∘ f) = fun l => !decide (l ∈ row) := by
      funext l
      show (!decide (f l ∈ row.map f)) = _
      rw [decide_eq_decide.mpr L.mem]
    rw [e]
    refine List.map_congr_left fun l _ => ?_
    show row.map f ++ [f l] = (row ++ [l]).map f
    rw [List.map_append, List.map_singleton]
theorem Lab.arr (L : Lab f v kd) (n : Nat) (ls : List Nat) : ∀ k, arrI n (ls.map f) k = (arrN n ls k).map (List.map f)
  | 0 => rfl
  | k + 1 => by
    show (arrI n (ls.map f) k).flatMap (stepI n (ls.map f)) = ((arrN n ls k).flatMap (stepN n ls)).map (List.map f)
    rw [L.arr n ls k, List.flatMap_map, List.map_flatMap]
    exact congrArg (fun g => (arrN n ls k).flatMap g) (funext fun row => L.step n ls row)
theorem flatMap_perm {α β : Type} {g g' : α → List β} (h : ∀ a, (g a).Perm (g' a)) : ∀ l : List α, (l.flatMap g).Perm (l.flatMap g')
  | [] => .refl _
  | a :: l => by
    rw [List.flatMap_cons, List.flatMap_cons]
    exact (h a).append (flatMap_perm h l)
theorem flatMap_perm2 {α β : Type} (g : α → List β) {l l' : List α} (h : l.Perm l') : (l.flatMap g).Perm (l'.flatMap g) := by
  induction h with
  | nil => exact .refl _
  | cons x _ ih => rw [List.flatMap_cons, List.flatMap_cons]; exact (List.Perm.refl _).append ih
  | swap x y l =>
    rw [List.flatMap_cons, List.flatMap_cons, List.flatMap_cons, List.flatMap_cons, ← List.append_assoc, ← List.append_assoc]
    exact List.perm_append_comm.append (.refl _)
  | trans _ _ h1 h2 => exact h1.trans h2
theorem arr_perm {n : Nat} {ls ls' : List Nat} (h : ls.Perm ls') : ∀ k, (arrN n ls k).Perm (arrN n ls' k)
  | 0 => .refl _
  | k + 1 => by
    refine (flatMap_perm2 _ (arr_perm h k)).trans (flatMap_perm (fun row => ?_) _)
    unfold stepN
    rw [h.length_eq]
    exact (List.Perm.refl _).append ((h.filter _).map _)
end
end Rv
/-! the search and the labels of an image (k42) -/
namespace Rv
open PySem PySem.Spec PyProof.Rows L2 RL RQ RV RX
theorem fm_congr {α β : Type} {g g' : α → List β} : ∀ (l : List α), (∀ a ∈ l, g a = g' a) → l.flatMap g = l.flatMap g'
  | [], _ => rfl
  | a :: l, h => by
    rw [List.flatMap_cons, List.flatMap_cons, h a (List.mem_cons_self ..), fm_congr l fun b hb => h b (List.mem_cons_of_mem _ hb)]
section
variable {f : Nat → Int} {v kd : Nat}
theorem Lab.mv (L : Lab f v kd) {g : List Nat} {t s : Nat} (hs : s < g.length) : mv (g.map f) t s = (mvN g t s).map f := by
  unfold RV.mv mvN
  rw [map_at hs, List.map_set, List.map_set, L.f0]
theorem Lab.cell (L : Lab f v kd) {g : List Nat} {t s : Nat} (ht : t < g.length) (hs : s < g.length) : cellI (g.map f) t s = (cellN g t s).map (List.map f) := by
  unfold cellI cellN
  rw [map_at ht, map_at hs]
  by_cases h : g.getD t 0 = 0 ∧ g.getD s 0 ≠ 0
  · rw [if_pos h, if_pos ⟨L.zero.mpr h.1, fun k => h.2 (L.zero.mp k)⟩, L.mv hs, List.map_singleton]
  · rw [if_neg h, if_neg (fun k => h ⟨L.zero.mp k.1, fun z => k.2 (L.zero.mpr z)⟩)]
    rfl
theorem Lab.mvs (L : Lab f v kd) (g : List Nat) : mvsI (g.map f) = (mvsN g).map (List.map f) := by
  unfold mvsI mvsP rowI mvsN
  rw [List.length_map, List.map_flatMap]
  refine fm_congr _ fun t ht => ?_
  rw [List.map_flatMap]
  exact fm_congr _ fun s hs => L.cell (List.mem_range.mp ht) (List.mem_range.mp hs)
theorem le_getD {x : List Nat} (h : Le v x) (s : Nat) : x.getD s 0 ≤ v := by
  rw [List.getD_eq_getElem?_getD]
  cases e : x[s]? with
  | none => exact Nat.zero_le _
  | some y => exact h y (List.mem_of_getElem? e)
theorem le_set {x : List Nat} (h : Le v x) {i y : Nat} (hy : y ≤ v) : Le v (x.set i y) := fun l hl => by
  rcases List.mem_or_eq_of_mem_set hl with k | k
  · exact h l k
  · rw [k]; exact hy
theorem le_mvs {g : List Nat} (h : Le v g) : ∀ a ∈ mvsN g, Le v a := fun a ha => by
  unfold mvsN at ha
  obtain ⟨t, _, ha⟩ := List.mem_flatMap.mp ha
  obtain ⟨s, _, ha⟩ := List.mem_flatMap.mp ha
  unfold cellN at ha
  split at ha
  · rw [List.mem_singleton.mp ha]
    exact le_set (le_set h (le_getD h s)) (Nat.zero_le _)
  · exact absurd ha List.not_mem_nil
def toI (f : Nat → Int) (kd : Nat) (w : WN) : WI := (w.1.map f, w.2.map (cod kd))
def toS (f : Nat → Int) (kd : Nat) (st : List (List Nat) × List WN) : List (List Int) × List WI := (st.1.map (List.map f), st.2.map (toI f kd))
theorem Lab.add (L : Lab f v kd) (V : List (List Bool)) (st : List (List Nat) × List WN) {a : List Nat} (h : Le v a) : addI (V.map (cod kd)) (toS f kd st) (a.map f) = toS f kd (addN V st a) := by
  unfold addI addN
  by_cases e : occ a ∈ V
  · rw [if_pos e, if_pos ((L.cdsV h V).mpr e)]
  · rw [if_neg e, if_neg (fun k => e ((L.cdsV h V).mp k))]
    unfold toS
    dsimp only
    rw [List.map_append, List.map_singleton]
    unfold toI
    dsimp only
    rw [List.map_append, List.map_singleton, L.cds h]
    by_cases m : a ∈ st.1
    · rw [if_pos m, if_pos (L.memL.mpr m)]
    · rw [if_neg m, if_neg (fun k => m (L.memL.mp k)), List.map_append, List.map_singleton]
theorem Lab.fold (L : Lab f v kd) (V : List (List Bool)) : ∀ (l : List (List Nat)) (st : List (List Nat) × List WN), (∀ a ∈ l, Le v a) → (l.map (List.map f)).foldl (addI (V.map (cod kd))) (toS f kd st) = toS f kd (l.foldl (addN V) st)
  | [], st, _ => rfl
  | a :: l, st, h => by
    rw [List.map_cons, List.foldl_cons, List.foldl_cons, L.add V st (h a (List.mem_cons_self ..)), L.fold V l _ fun b hb => h b (List.mem_cons_of_mem _ hb)]
theorem Lab.one (L : Lab f v kd) (st : List (List Nat) × List WN) (w : WN) (h : Le v w.1) : oneI (toS f kd st) (toI f kd w) = toS f kd (oneN st w) := by
  unfold oneI oneN
  show (mvsI (w.1.map f)).foldl (addI (w.2.map (cod kd))) (toS f kd st) = _
  rw [L.mvs, L.fold _ _ _ (le_mvs h)]
theorem le_add {V : List (List Bool)} {st : List (List Nat) × List WN} {a : List Nat} (h : ∀ w ∈ st.2, Le v w.1) (k : Le v a) : ∀ w ∈ (addN V st a).2, Le v w.1 := fun w hw => by
  unfold addN at hw
  split at hw
  · exact h w hw
  · rcases List.mem_append.mp hw with z | z
    · exact h w z
    · rw [List.mem_singleton.mp z]; exact k
theorem le_fold {V : List (List Bool)} : ∀ (l : List (List Nat)) (st : List (List Nat) × List WN), (∀ w ∈ st.2, Le v w.1) → (∀ a ∈ l, Le v a) → ∀ w ∈ (l.foldl (addN V) st).2, Le v w.1
  | [], st, h, _ => h
  | a :: l, st, h, k => by
    rw [List.foldl_cons]
    exact le_fold l _ (le_add h (k a (List.mem_cons_self ..))) fun b hb => k b (List.mem_cons_of_mem _ hb)
theorem Lab.run (L : Lab f v kd) : ∀ (m i : Nat) (st : List (List Nat) × List WN), (∀ w ∈ st.2, Le v w.1) → runI m i (toS f kd st) = runN m i st
  | 0, i, st, _ => by
    show (toS f kd st).1.length = st.1.length
    unfold toS
    rw [List.length_map]
  | m + 1, i, st, h => by
    show (match (toS f kd st).2[i]? with | none => (toS f kd st).1.length | some w => runI m (i + 1) (oneI (toS f kd st) w)) = match st.2[i]? with | none => st.1.length | some w => runN m (i + 1) (oneN st w)
    have e : (toS f kd st).2[i]? = (st.2[i]?).map (toI f kd) := by
      unfold toS
      rw [List.getElem?_map]
    rw [e]
    cases k : st.2[i]? with
    | none =>
      show (toS f kd st).1.length = st.1.length
      unfold toS
      rw [List.length_map]
    | some w =>
      have hw := h w (List.mem_of_getElem? k)
      show runI m (i + 1) (oneI (toS f kd st) (toI f kd w)) = runN m (i + 1) (oneN st w)
      rw [L.one st w hw]
      exact L.run m (i + 1) (oneN st w) (le_fold _ _ h (le_mvs hw))
theorem Lab.rch (L : Lab f v kd) {g : List Nat} (h : Le v g) : rchI (g.map f) = rchN g := by
  unfold rchI rchN
  have e : (([g.map f], [(g.map f, [codes (g.map f)])]) : List (List Int) × List WI) = toS f kd ([g], [(g, [occ g])]) := by
    rw [L.cds h]
    rfl
  rw [e]
  exact L.run 200 0 _ fun w hw => by rw [List.mem_singleton.mp hw]; exact h
end
/-! an image by its labels -/
def occI (es : List Int) : List Bool := es.map fun e => e == -1
def fullL (es : List Int) (l : Nat) : Int := if l = 0 then -1 else if l ≤ (full es).length then (full es).getD (l - 1) 0 else 2000 + l
theorem full_cons (e : Int) (es : List Int) : full (e :: es) = if e = -1 then full es else e :: full es := by
  unfold full
  by_cases z : e = -1
  · rw [if_pos z, List.filter_cons_of_neg (by rw [decide_eq_true z]; decide)]
  · rw [if_neg z, List.filter_cons_of_pos (by rw [decide_eq_false z]; decide)]
theorem lab_map (f : Nat → Int) (f0 : f 0 = -1) : ∀ (es : List Int) (k : Nat), (∀ i, i < (full es).length → f (k + i) = (full es).getD i 0) → (labB (occI es) k).map f = es
  | [], k, _ => rfl
  | e :: es, k, h => by
    rw [full_cons] at h
    by_cases z : e = -1
    · rw [if_pos z] at h
      have o : occI (e :: es) = true :: occI es := by unfold occI; rw [List.map_cons, z]; rfl
      rw [o]
      show f 0 :: (labB (occI es) k).map f = e :: es
      rw [f0, z, lab_map f f0 es k h]
    · rw [if_neg z] at h
      have o : occI (e :: es) = false :: occI es := by
        unfold occI
        rw [List.map_cons]
        congr 1
        simpa using z
      rw [o]
      show f k :: (labB (occI es) (k + 1)).map f = e :: es
      have h0 := h 0 (by simp)
      rw [Nat.add_zero] at h0
      rw [h0, lab_map f f0 es (k + 1) fun i hi => by
        have := h (i + 1) (by simpa using hi)
        rw [show k + 1 + i = k + (i + 1) by omega, this]
        rfl]
      rfl
theorem occ_full : ∀ es : List Int, ((occI es).filter (! ·)).length = (full es).length
  | [] => rfl
  | e :: es => by
    rw [full_cons]
    by_cases z : e = -1
    · rw [if_pos z, ← occ_full es]
      unfold occI
      rw [List.map_cons, z]
      rfl
    · have k : (e == -1) = false := by simpa using z
      rw [if_neg z, List.length_cons, ← occ_full es]
      unfold occI
      rw [List.map_cons, k]
      rfl
theorem lab_le : ∀ (p : List Bool) (k : Nat), ∀ l ∈ labB p k, l < k + (p.filter (! ·)).length ∨ l = 0
  | [], k, l, h => absurd h List.not_mem_nil
  | true :: p, k, l, h => by
    rcases List.mem_cons.mp h with e | e
    · exact .inr e
    · exact lab_le p k l e
  | false :: p, k, l, h => by
    have e1 : ((false :: p).filter (! ·)).length = (p.filter (! ·)).length + 1 := rfl
    rcases List.mem_cons.mp h with e | e
    · rw [e, e1]; exact .inl (by omega)
    · rcases lab_le p (k + 1) l e with z | z
      · exact .inl (by rw [e1]; omega)
      · exact .inr z
theorem mem_pats : ∀ p : List Bool, p ∈ pats p.length
  | [] => List.mem_singleton_self _
  | b :: p => by
    show b :: p ∈ (pats p.length).flatMap fun p => [true :: p, false :: p]
    refine List.mem_flatMap.mpr ⟨p, mem_pats p, ?_⟩
    cases b <;> simp
theorem good_of (p : List Bool) (h : p.length ≤ 5) : goodP p.length p = true := by
  have k := good_all
  rw [List.all_eq_true] at k
  have k2 := k p.length (List.mem_range.mpr (by omega))
  rw [List.all_eq_true] at k2
  exact k2 p (mem_pats p)
theorem lbs_map (es : List Int) : (lbs (full es).length).map (fullL es) = full es := by
  unfold lbs
  rw [List.map_map]
  refine List.ext_getElem (by rw [List.length_map, List.length_range]) fun i h1 h2 => ?_
  rw [List.getElem_map, List.getElem_range]
  show fullL es (i + 1) = _
  unfold fullL
  rw [if_neg (by omega), if_pos (by omega), show i + 1 - 1 = i by omega, getD_get h2]
theorem full_lab {es : List Int} {kd : Nat} (nd : (full es).Nodup) (rg : ∀ e ∈ full es, -1 ≤ e ∧ e ≤ 999 ∧ sg e = 48 + kd) : Lab (fullL es) (full es).length kd := by
  have at_ : ∀ l, 1 ≤ l → l ≤ (full es).length → fullL es l = (full es).getD (l - 1) 0 ∧ fullL es l ∈ full es := fun l h1 h2 => by
    have e : fullL es l = (full es).getD (l - 1) 0 := by unfold fullL; rw [if_neg (by omega), if_pos h2]
    exact ⟨e, by rw [e]; exact mem_at (by omega)⟩
  have ne : ∀ x ∈ full es, x ≠ -1 := fun x hx => (mem_full.mp hx).2
  refine ⟨by unfold fullL; rw [if_pos rfl], fun a b e => ?_, fun l h1 h2 => rg _ (at_ l h1 h2).2⟩
  have big : ∀ l, ¬ l = 0 → ¬ l ≤ (full es).length → fullL es l = 2000 + l := fun l h1 h2 => by unfold fullL; rw [if_neg h1, if_neg h2]
  have z0 : fullL es 0 = -1 := by unfold fullL; rw [if_pos rfl]
  by_cases a0 : a = 0
  · by_cases b0 : b = 0
    · rw [a0, b0]
    · rw [a0, z0] at e
      by_cases bl : b ≤ (full es).length
      · exact absurd e.symm (ne _ (at_ b (by omega) bl).2)
      · rw [big b b0 bl] at e; omega
  · by_cases b0 : b = 0
    · rw [b0, z0] at e
      by_cases al : a ≤ (full es).length
      · exact absurd e (ne _ (at_ a (by omega) al).2)
      · rw [big a a0 al] at e; omega
    · by_cases al : a ≤ (full es).length
      · by_cases bl : b ≤ (full es).length
        · rw [(at_ a (by omega) al).1, (at_ b (by omega) bl).1] at e
          rw [getD_get (show a - 1 < (full es).length by omega), getD_get (show b - 1 < (full es).length by omega)] at e
          have pw := List.pairwise_iff_getElem.mp nd
          rcases Nat.lt_trichotomy (a - 1) (b - 1) with h | h | h
          · exact absurd e (pw _ _ _ _ h)
          · omega
          · exact absurd e.symm (pw _ _ _ _ h)
        · have := (rg _ (at_ a (by omega) al).2).2.1
          rw [e, big b b0 bl] at this
          omega
      · rw [big a a0 al] at e
        by_cases bl : b ≤ (full es).length
        · have := (rg _ (at_ b (by omega) bl).2).2.1
          rw [← e] at this
          omega
        · rw [big b b0 bl] at e; omega
/-- the counts -/
theorem world {es vals : List Int} {kd : Nat} (n5 : es.length ≤ 5) (vl : vals.length ≤ es.length) (nd : vals.Nodup) (rg : ∀ e ∈ vals, 0 ≤ e ∧ e ≤ 999 ∧ sg e = 48 + kd) (pm : es.Perm (vals ++ List.replicate (es.length - vals.length) (-1))) :
    (arrI es.length vals es.length).countP (fun fs => decide (vdt es fs = 0)) = cgN es.length vals.length ∧
    (¬ (es.length = 5 ∧ 1 < vals.length ∧ vals.length < 4) → rchI es = cgN es.length vals.length) ∧
    ∀ fs ∈ arrI es.length vals es.length, fs.Perm es := by
  have pf : (full es).Perm vals := by
    have h := pm.filter (fun x => !decide (x = -1))
    have e1 : (vals ++ List.replicate (es.length - vals.length) (-1)).filter (fun x => !decide (x = -1)) = vals := by
      rw [List.filter_append, List.filter_replicate, if_neg (by decide), List.append_nil, List.filter_eq_self]
      intro x hx
      have := (rg x hx).1
      rw [decide_eq_false (by omega)]
      rfl
    rw [e1] at h
    exact h
  have lv := pf.length_eq
  have L := full_lab (es := es) (kd := kd) (pf.nodup_iff.mpr nd) fun e he => by
    have := rg e (pf.mem_iff.mp he)
    exact ⟨by omega, this.2⟩
  have lm := lab_map (fullL es) L.f0 es 1 fun i hi => by
    unfold fullL
    rw [if_neg (by omega), if_pos (by omega), show 1 + i - 1 = i by omega]
  obtain ⟨c, hc⟩ : ∃ c, c = labB (occI es) 1 := ⟨_, rfl⟩
  rw [← hc] at lm
  have lo : (occI es).length = es.length := by unfold occI; rw [List.length_map]
  have lc : c.length = es.length := by rw [← lm, List.length_map]
  have cl : Le (full es).length c := fun l hl => by
    rw [hc] at hl
    have := lab_le (occI es) 1 l hl
    rw [occ_full] at this
    omega
  obtain ⟨ls, el, pl⟩ : ∃ ls : List Nat, vals = ls.map (fullL es) ∧ ls.Perm (lbs (full es).length) := by
    have h : ((lbs (full es).length).map (fullL es)).Perm vals := by rw [lbs_map]; exact pf
    have lift : ∀ {a : List Nat} {b : List Int}, (a.map (fullL es)).Perm b → ∃ ls : List Nat, b = ls.map (fullL es) ∧ ls.Perm a := by
      intro a b h
      generalize e : a.map (fullL es) = a' at h
      induction h generalizing a with
      | nil => rw [List.map_eq_nil_iff] at e; subst e; exact ⟨[], rfl, .refl _⟩
      | cons x _ ih =>
        cases a with
        | nil => cases e
        | cons y a =>
          rw [List.map_cons] at e
          obtain ⟨e1, e2⟩ := List.cons.inj e
          obtain ⟨ls, h1, h2⟩ := ih e2
          exact ⟨y :: ls, by rw [List.map_cons, ← h1, e1], h2.cons y⟩
      | swap x y l =>
        match a, e with
        | p :: q :: a, e =>
          rw [List.map_cons, List.map_cons] at e
          obtain ⟨e1, e2⟩ := List.cons.inj e
          obtain ⟨e2, e3⟩ := List.cons.inj e2
          exact ⟨q :: p :: a, by rw [List.map_cons, List.map_cons, e1, e2, e3], .swap ..⟩
      | trans _ _ h1 h2 =>
        obtain ⟨l1, a1, a2⟩ := h1 e
        obtain ⟨l2, b1, b2⟩ := h2 a1.symm
        exact ⟨l2, b1, b2.trans a2⟩
    exact lift h
  have g := good_of (occI es) (by omega)
  unfold goodP at g
  rw [lo, occ_full, ← hc] at g
  rw [Bool.and_eq_true, Bool.and_eq_true, decide_eq_true_eq, List.all_eq_true] at g
  obtain ⟨⟨g1, g2⟩, g3⟩ := g
  have ap := arr_perm (n := es.length) pl es.length
  have ea : arrI es.length vals es.length = (arrN es.length ls es.length).map (List.map (fullL es)) := by rw [el]; exact L.arr _ _ _
  have px : ∀ x ∈ arrN es.length ls es.length, x.Perm c := fun x hx => List.isPerm_iff.mp (g3 x (ap.mem_iff.mp hx))
  refine ⟨?_, fun ne => ?_, fun fs hf => ?_⟩
  · rw [ea, List.countP_map, ← lv, ← g1, ← ap.countP_eq]
    refine List.countP_congr fun x hx => ?_
    have p := px x hx
    have := L.ok p cl fun l hl => cl l (p.mem_iff.mp hl)
    rw [lm] at this
    show decide (vdt es (x.map (fullL es)) = 0) = true ↔ _
    rw [decide_eq_true_eq]
    exact this
  · rw [Bool.or_eq_true, Bool.and_eq_true, Bool.and_eq_true, decide_eq_true_eq, decide_eq_true_eq, decide_eq_true_eq, decide_eq_true_eq] at g2
    rw [← lv] at ne ⊢
    have r := L.rch cl
    rw [lm] at r
    rw [r]
    exact g2.resolve_left fun k => ne ⟨k.1.1, k.1.2, k.2⟩
  · rw [ea] at hf
    obtain ⟨x, hx, rfl⟩ := List.mem_map.mp hf
    have := (px x hx).map (fullL es)
    rw [lm] at this
    exact this
end Rv
/-! dict methods of a field, list methods of what is made; the leads of a Machine -/
namespace Rv
open PySem PySem.Spec PyProof.Rows L2 RM
section
variable {σ : L2.St} {H : Hp} {Q : VK} {td ty tx to : TE} {t : TA} {K : PySem.W.Frag} {a : Addr} {kvs : List (Key × V)} {xs : List V}
end
section
variable {H0 H H1 : Hp} {d l0 : Addr} {es : List (Nat × Int × Nat)} {kvs : List (Key × V)} {s : Nat}
end
end Rv
/-! own classes without a maker of their own -/
namespace Rv
open PySem PySem.Spec PyProof.Rows L2
section
variable {X : Cx} {C : Addr} {x : Str} {p pos : Pos}
end
end Rv
/-! the mathematics of k09: simple rules, Either, Lagging -/
namespace RU
open RM
inductive Lf where
  | once | top | mark
  | pts (nw : Bool) (ns : List Nat)
  | late (o : Option (List Nat))
inductive Rl where
  | leaf (l : Lf)
  | lag (n : Nat)
  | eit (ls : List Lf)
def VR : Rl → Nat → List Nat → Prop
  | .lag _, len, st => ∃ p h, st = [p, h] ∧ p ≤ len ∧ h ≤ 60
  | _, len, st => ∃ p, st = [p] ∧ p ≤ len
end RU
/-! for k09: list(d) of a dict by steps; steps, rules in the heap -/
namespace Rv
open PySem PySem.Spec PyProof.Rows L2 RM RU
/-! list(d) -/
/-! steps whose states are plain tuples -/
section
variable {K : PySem.W.Frag} {H H' : Hp} {p : Addr} {s : Stp} {ps qs : List Addr} {ss ts : List Stp}
end
/-! rules -/
/-- all objects but lists stay -/
def Ki (H H' : Hp) : Prop := ∀ a o, (∀ xs, o ≠ .lst xs) → H a = some o → H' a = some o
section
variable {H H' H1 : Hp} {B : Box} {K : PySem.W.Frag} {a p : Addr}
theorem Ki.same (S : Same H H') : Ki H H' := fun a o _ h => S _ _ h
end
/-! specs -/
theorem VR.len {r : Rl} {m : Nat} {st : List Nat} (v : VR r m st) {n : Nat} {st2 : List Nat} (v2 : VR r n st2) : st2.length = st.length := by
  cases r with
  | lag a => obtain ⟨p, h, rfl, _⟩ := v; obtain ⟨p2, h2, rfl, _⟩ := v2; rfl
  | leaf a => obtain ⟨p, rfl, _⟩ := v; obtain ⟨p2, rfl, _⟩ := v2; rfl
  | eit a => obtain ⟨p, rfl, _⟩ := v; obtain ⟨p2, rfl, _⟩ := v2; rfl
end Rv
/-! dicts whose keys are tuples, also within tuples: of any nesting -/
namespace Rv
open PySem PySem.Spec PyProof.Rows L2
/-- every tuple stays -/
def Kf (H H' : Hp) : Prop := ∀ a xs, L2.Rd H a (.tup xs) → L2.Rd H' a (.tup xs)
section
variable {H H' H1 : Hp} {d : Addr} {o u : HO}
theorem Kf.ki (k : Ki H H') : Kf H H' := fun a xs h => h.elim (fun e => .inl (k _ _ (fun ys z => by cases z) e)) fun ⟨o, e⟩ => .inr ⟨o, k _ _ (fun ys z => by cases z) e⟩
theorem Kf.same (S : Same H H') : Kf H H' := .ki (Ki.same S)
theorem Kf.mut (h : H d = some o) (nt : ∀ xs, o ≠ .tup xs) (nf : ∀ b v, o ≠ .frz b v) : Kf H (upd H d u) := fun a xs r => by
  rcases r with e | ⟨b, e⟩
  · exact .inl (by rw [upd_ne (ne_of e h (nt xs).symm)]; exact e)
  · exact .inr ⟨b, by rw [upd_ne (ne_of e h (nf b _).symm)]; exact e⟩
end
mutual
/-- a key in the heap -/
inductive GAt (H : Hp) : NestedKey → V → Prop
  | num (i : Int) : GAt H (.num i) (.int i)
  | tup {ks : List NestedKey} {q : Addr} {xs : List V} (h : L2.Rd H q (.tup xs)) (a : GAll H ks xs) : GAt H (.tup ks) (.ref q)
inductive GAll (H : Hp) : List NestedKey → List V → Prop
  | nil : GAll H [] []
  | cons {k : NestedKey} {ks : List NestedKey} {x : V} {xs : List V} (h : GAt H k x) (t : GAll H ks xs) : GAll H (k :: ks) (x :: xs)
end
mutual
theorem GAt.kf {H H' : Hp} (k : Kf H H') : ∀ (key : NestedKey) (v : V), GAt H key v → GAt H' key v
  | .num i, _, h => by cases h; exact .num i
  | .tup ks, _, h => by cases h with | tup h a => exact .tup (k _ _ h) (GAll.kf k ks _ a)
  | .none, _, h => nomatch h
  | .text _, _, h => nomatch h
theorem GAll.kf {H H' : Hp} (k : Kf H H') : ∀ (ks : List NestedKey) (xs : List V), GAll H ks xs → GAll H' ks xs
  | [], _, h => by cases h; exact .nil
  | key :: ks, _, h => by cases h with | cons h t => exact .cons (GAt.kf k key _ h) (GAll.kf k ks _ t)
end
mutual
theorem GAt.is {P : Program} {w : World} {H : Hp} {h : Heap} (ok : HOk P w H h) : ∀ (key : NestedKey) (v : V) (u : Value), GAt H key v → RelV v u → NestedIs h key u
  | .num i, _, u, g, r => by cases g; obtain ⟨t, rfl⟩ := r; exact .int _ _
  | .tup ks, _, u, g, r => by
    cases g with
    | tup hq a =>
      obtain rfl : u = .ref _ := r
      obtain ⟨_, its, hv, o, h1, h2, n, h3⟩ := hq.ok ok
      exact .tup h1 h2 h3 (by simpa using GAll.is ok ks _ _ a hv)
  | .none, _, _, g, _ => nomatch g
  | .text _, _, _, g, _ => nomatch g
theorem GAll.is {P : Program} {w : World} {H : Hp} {h : Heap} (ok : HOk P w H h) : ∀ (ks : List NestedKey) (xs : List V) (us : List Value), GAll H ks xs → Vals xs us → NestedAll h ks us
  | [], _, _, g, r => by cases g; cases r; exact .nil
  | key :: ks, _, _, g, r => by
    cases g with
    | cons g t =>
      cases r with
      | cons r1 r2 => exact .cons (GAt.is ok key _ _ g r1) (GAll.is ok ks _ _ t r2)
end
/-- a key of a dict: not too deep -/
def GK (H : Hp) (k : NestedKey) (b : Addr) : Prop := GAt H k (.ref b) ∧ k.depth ≤ 8
theorem GK.kf {H H' : Hp} {k : NestedKey} {b : Addr} (g : GK H k b) (k' : Kf H H') : GK H' k b := ⟨GAt.kf k' _ _ g.1, g.2⟩
theorem GK.is {P : Program} {w : World} {H : Hp} {h : Heap} {k : NestedKey} {b : Addr} (ok : HOk P w H h) (g : GK H k b) : (nestedKind P w).is h k b := ⟨GAt.is ok _ _ _ g.1 rfl, g.2⟩
abbrev GE := NestedKey × Addr × V
def GRel (x : GE) (y : NestedKey × Addr × Value) : Prop := y.1 = x.1 ∧ y.2.1 = x.2.1 ∧ RelV x.2.2 y.2.2
def DGφ (P : Program) (w : World) (a : Addr) (xs : List GE) : Heap → Prop := fun h => (a == sysModules) = false ∧ xs.length ≤ sizeLine ∧ ∃ ys : List (NestedKey × Addr × Value), Paired GRel xs ys ∧
  ∃ o es ep, h.get? a = some o ∧ o.ExactDict ∧ o.data = .dict es ep ∧ es.toList = ys.map (entryOfKey (nestedKind P w)) ∧ (ys.map (·.1)).Nodup
def DGO (P : Program) (w : World) (a : Addr) (xs : List GE) : HO := .ext (DGφ P w a xs)
def keysG (xs : List GE) : List NestedKey := xs.map (·.1)
def putG (xs : List GE) (k : NestedKey) (b : Addr) (v : V) : List GE := if k ∈ keysG xs then xs.map (fun x => if x.1 = k then (x.1, x.2.1, v) else x) else xs ++ [(k, b, v)]
def GsAt (H : Hp) (xs : List GE) : Prop := ∀ x ∈ xs, GK H x.1 x.2.1
theorem GsAt.kf {H H' : Hp} {xs : List GE} (g : GsAt H xs) (k : Kf H H') : GsAt H' xs := fun x hx => (g x hx).kf k
theorem ag_some {xs : List GE} {ys : List (NestedKey × Addr × Value)} (r : Paired GRel xs ys) (k : NestedKey) : (atKey ys k).isSome = decide (k ∈ keysG xs) := by
  unfold atKey
  rw [Option.isSome_map]
  induction r with
  | nil => rfl
  | @cons x y xs ys h t ih =>
    obtain ⟨h1, h2, h3⟩ := h
    rw [List.find?_cons, h1]
    unfold keysG at *
    rw [List.map_cons]
    by_cases z : x.1 = k
    · rw [decide_eq_true z, decide_eq_true (show k ∈ x.1 :: xs.map (·.1) from by rw [z]; exact List.mem_cons_self ..)]
      rfl
    · rw [decide_eq_false z]
      show (List.find? _ ys).isSome = _
      rw [ih]
      refine decide_eq_decide.mpr ⟨fun m => List.mem_cons_of_mem _ m, fun m => ?_⟩
      rcases List.mem_cons.mp m with e | e
      · exact absurd e.symm z
      · exact e
theorem relG_put {xs : List GE} {ys : List (NestedKey × Addr × Value)} (r : Paired GRel xs ys) (k : NestedKey) (b : Addr) {v : V} {u : Value} (ru : RelV v u) : Paired GRel (putG xs k b v) (storedH ys k b u) := by
  unfold putG storedH
  have e := ag_some r k
  by_cases z : k ∈ keysG xs
  · rw [if_pos z, if_pos (by rw [e]; exact decide_eq_true z)]
    clear e z
    induction r with
    | nil => exact .nil
    | @cons x y xs ys h t ih =>
      obtain ⟨h1, h2, h3⟩ := h
      rw [List.map_cons, List.map_cons]
      refine .cons ?_ ih
      unfold putAt
      by_cases z : x.1 = k
      · rw [if_pos z, if_pos (by rw [h1, z])]
        exact ⟨h1, h2, ru⟩
      · rw [if_neg z, if_neg (by rw [h1]; exact z)]
        exact ⟨h1, h2, h3⟩
  · rw [if_neg z, if_neg (by rw [e, decide_eq_false z]; exact Bool.false_ne_true)]
    exact r.snoc ⟨rfl, rfl, ru⟩
theorem putG_len (xs : List GE) (k : NestedKey) (b : Addr) (v : V) : (putG xs k b v).length ≤ xs.length + 1 := by
  unfold putG
  split
  · rw [List.length_map]
    omega
  · rw [List.length_append]
    exact Nat.le_refl _
theorem dg_new {P : Program} {w : World} {H : Hp} {h : Heap} {a : Addr} {xs : List GE} (R : DGφ P w a xs h) : ObjOk P w H h a (DGO P w a xs) := by
  have ⟨hd, hl, ys, r, o, es, ep, ho, rest⟩ := R
  refine ⟨R, ⟨o, ho⟩, fun h1 h2 p k => ?_⟩
  obtain ⟨hd, hl, ys, r, o, es, ep, ho, rest⟩ := p
  exact ⟨hd, hl, ys, r, o, es, ep, k o ho, rest⟩
section
variable {X : Cx} {pins : List (Addr × Obj)} {σ : L2.St} {H : Hp} {s : Shared} {a b : Addr} {xs : List GE} {k : NestedKey} {A : Around} {E : Value → Shared → Prop}
theorem dg_get (I : Inv X pins σ H s) (e : H a = some (DGO X.prog X.w a xs)) (ka : GsAt H xs) : (a == sysModules) = false ∧ xs.length ≤ sizeLine ∧ ∃ ys, Paired GRel xs ys ∧ s.heap.DictOfH (nestedKind X.prog X.w) a ys := by
  obtain ⟨hd, hl, ys, r, o, es, ep, ho, hx, hdat, hes, hn⟩ : DGφ X.prog X.w a xs s.heap := (I.hok a _ e).1
  refine ⟨hd, hl, ys, r, o, es, ep, ho, hx, hdat, hes, fun y hy => ?_, hn⟩
  clear hes hn e hl
  induction r with
  | nil => exact absurd hy List.not_mem_nil
  | @cons x z xs ys h t ih =>
    rcases List.mem_cons.mp hy with e | e
    · subst e
      obtain ⟨h1, h2, h3⟩ := h
      rw [h1, h2]
      exact GK.is I.hok (ka x (List.mem_cons_self ..))
    · exact ih (fun x hx => ka x (List.mem_cons_of_mem _ hx)) e
theorem dg_setItem {Q : Unit → Shared → Prop} {v : V} {u : Value} (hu : A.units + 64 < cLine) (I : Inv X pins σ H s) (e : H a = some (DGO X.prog X.w a xs)) (ka : GsAt H xs) (kb : GK H k b) (hl : xs.length < 100000) (rv : RelV v u)
    (h : ∀ s', Inv X pins σ (upd H a (DGO X.prog X.w a (putG xs k b v))) s' → Q () s') : wpAny (model X.prog X.w) A (setItem (.ref a) (.ref b) u) Q E s := by
  obtain ⟨hd, _, ys, r, dd⟩ := dg_get I e ka
  have hz : ys.length ≤ sizeLine := by rw [← Paired.length r, sizeLine_eq]; omega
  refine wpAny_setItem_heap (hsz := hz) (knd := nestedKind X.prog X.w) (show A.units + 1 + 8 < cLine by omega) (GK.is I.hok kb) dd fun h' dd' hs => h _ ?_
  obtain ⟨q, es, ep, hq, h2, h3, h4, _, h5⟩ := dd'
  refine d_write I (by rw [e]; exact True.intro) hs ⟨q, hq⟩ (dg_new ⟨hd, ?_, _, relG_put r k b rv, q, es, ep, hq, h2, h3, h4, h5⟩)
  have := putG_len xs k b v
  rw [sizeLine_eq]
  omega
end
end Rv
/-! dicts whose keys are tuples: rules, readings, what a dict holds -/
namespace Rv
open PySem PySem.Spec PyProof.Rows L2
def tDNewG (P : Program) (w : World) : TE := fun _ H Q => ∀ p, H p = none → Q (.ref p) (upd H p (DGO P w p []))
def PtG (P : Program) (w : World) (x y v : V) (H : Hp) (R : Hp → Prop) : Prop := ∃ a b xs k, x = .ref a ∧ y = .ref b ∧ H a = some (DGO P w a xs) ∧ GsAt H xs ∧ GK H k b ∧ xs.length < 100000 ∧ R (upd H a (DGO P w a (putG xs k b v)))
def sDPutG (P : Program) (w : World) (td ty tv : TE) : TS := fun D σ H => tv σ H fun v H1 => td σ H1 fun x H2 => ty σ H2 fun y H3 => PtG P w x y v H3 fun H4 => D.nx σ H4
section
variable {X : Cx} {o i e value : Expr} {pos pos' tpos : Pos} {td ty tv : TE} {P : Program} {w : World}
theorem pe_dnewH (hP : X.prog = P) (hw : X.w = w) : PE X (.Dict [] [] pos) (tDNewG P w) := by
  subst hP hw
  refine ⟨fun pins s σ H Q I h => wpAny_Dict_empty ⟨.ref s.heap.objs.size, _, I.laid (a := s.heap.objs.size) (o := DGO X.prog X.w s.heap.objs.size []) (t' := s.toks) (fun _ _ q => Heap.get?_push_of_some _ q) (Nat.le_refl _) (dg_new ?_), rfl, h _ (I.hok.fresh (Nat.le_refl _))⟩⟩
  exact ⟨beq_eq_false_iff_ne.mpr (Ne.symm (Nat.ne_of_lt I.big)), Nat.zero_le _, [], .nil, _, #[], 0, Heap.get?_push_size _ rfl, ⟨rfl, rfl, rfl⟩, rfl, rfl, List.nodup_nil⟩
theorem ps_dputH (hP : X.prog = P) (hw : X.w = w) (hu : X.A.units + 64 < cLine) (ho : PE X o td) (hi : PE X i ty) (hv : PE X value tv) (hs : swapsWith value (some (.Subscript o i pos')) pos.line X.env = pure false) :
    PS X (.Assign [.Subscript o i pos'] value pos) (sDPutG P w td ty tv) := by
  subst hP hw
  refine ⟨fun pins s σ H D I h => ?_⟩
  refine wpAny_Assign_Subscript (thn (hv.run pins s σ H _ I h) fun r s1 ⟨v, H1, I1, rv, q1⟩ => thn (ho.run pins s1 σ H1 _ I1 q1) fun u s2 ⟨x, H2, I2, rx, q2⟩ => thn (hi.run pins s2 σ H2 _ I2 q2) fun iv s3 ⟨y, H3, I3, ry, a, b, xs, k, ex, ey, ea, ka, kb, hl, q3⟩ => ?_) hs
  subst ex ey
  obtain rfl : u = Value.ref a := rx
  obtain rfl : iv = Value.ref b := ry
  exact dg_setItem hu I3 ea ka kb hl rv fun s4 I4 => ⟨σ, _, I4, q3⟩
end
/-! list(d) -/
/-! readings -/
section
variable {σ : L2.St} {H H' : Hp} {Q : VK} {D : Ends} {P : Program} {w : World} {td ty tv : TE} {d b l : Addr} {xs : List GE} {k : NestedKey} {v : V} {R : Hp → Prop} {o : HO}
theorem rd_dnewH (q : ∀ H2 p, Same H H2 → H p = none → H2 p = some (DGO P w p []) → Q (.ref p) H2) : tDNewG P w σ H Q := fun p np => new_q (R := fun H => Q (.ref p) H) np fun H2 S h => q H2 p S np h
theorem rd_dputH (q : tv σ H fun v H1 => td σ H1 fun x H2 => ty σ H2 fun y H3 => PtG P w x y v H3 fun H4 => D.nx σ H4) : sDPutG P w td ty tv D σ H := q
/-- a dict in the heap with these entries, each key once -/
structure Dg (P : Program) (w : World) (H : Hp) (d : Addr) (xs : List GE) : Prop where
  at_ : H d = some (DGO P w d xs)
  ks : GsAt H xs
  nd : (keysG xs).Nodup
theorem Kf.mutG (h : H d = some (DGO P w d xs)) : Kf H (upd H d o) := Kf.mut h (by intro ys z; cases z) (by intro a v z; cases z)
theorem Dg.nil (h : H d = some (DGO P w d [])) : Dg P w H d [] := ⟨h, fun x hx => absurd hx List.not_mem_nil, List.nodup_nil⟩
theorem Dg.same (g : Dg P w H d xs) (S : Same H H') : Dg P w H' d xs := ⟨S _ _ g.at_, g.ks.kf (Kf.same S), g.nd⟩
theorem Dg.mut (g : Dg P w H d xs) (ne : d ≠ l) (k : Kf H (upd H l o)) : Dg P w (upd H l o) d xs := ⟨by rw [upd_ne ne]; exact g.at_, g.ks.kf k, g.nd⟩
theorem keysG_put (xs : List GE) (k : NestedKey) (b : Addr) (v : V) : keysG (putG xs k b v) = if k ∈ keysG xs then keysG xs else keysG xs ++ [k] := by
  unfold putG
  split
  · unfold keysG
    rw [List.map_map]
    refine List.map_congr_left fun x _ => ?_
    show (if x.1 = k then (x.1, x.2.1, v) else x).1 = x.1
    split <;> rfl
  · unfold keysG
    rw [List.map_append]
    rfl
theorem Dg.put (g : Dg P w H d xs) (hb : GK H k b) : Dg P w (upd H d (DGO P w d (putG xs k b v))) d (putG xs k b v) := by
  have kf : Kf H (upd H d (DGO P w d (putG xs k b v))) := Kf.mutG g.at_
  refine ⟨upd_same, fun x hx => ?_, ?_⟩
  · unfold putG at hx
    split at hx
    · obtain ⟨x0, hx0, rfl⟩ := List.mem_map.mp hx
      have := (g.ks x0 hx0).kf kf
      split <;> exact this
    · rcases List.mem_append.mp hx with y | y
      · exact (g.ks x y).kf kf
      · rw [List.mem_singleton.mp y]
        exact hb.kf kf
  · rw [keysG_put]
    split
    · exact g.nd
    · rename_i z
      exact List.nodup_append.mpr ⟨g.nd, List.nodup_cons.mpr ⟨List.not_mem_nil, List.nodup_nil⟩, fun a ha c hc => by
        rw [List.mem_singleton.mp hc]
        exact fun y => z (y ▸ ha)⟩
theorem rd_PtG (g : Dg P w H d xs) (hb : GK H k b) (hl : xs.length < 100000) (q : ∀ H2, H2 = upd H d (DGO P w d (putG xs k b v)) → Kf H H2 → Dg P w H2 d (putG xs k b v) → R H2) : PtG P w (.ref d) (.ref b) v H R :=
  ⟨d, b, xs, k, rfl, rfl, g.at_, g.ks, hb, hl, q _ rfl (Kf.mutG g.at_) (g.put hb)⟩
end
end Rv
/-! rules and readings for k42: perm, factorial, a tuple made longer, len of a dict, ways -/
namespace Rv
open PySem PySem.Spec PyProof.Rows L2 RL RQ RV RX
theorem perm_ff : ∀ a, a < 13 → ∀ b, b < 13 → b ≤ a → PySem.W.mcPerm ((a : Nat) : Int) ((b : Nat) : Int) = ((ff a b : Nat) : Int) := by decide +kernel
theorem fac_ff : ∀ a, a < 13 → Builtin.Math.factorialNat a = ff a a := by decide +kernel
theorem ff_le : ∀ a, a < 13 → ∀ b, b < 13 → b ≤ a → ff b b ≤ ff a b := by decide +kernel
def fac1 : Nat → Nat
  | 0 => 1
  | n + 1 => fac1 n * (n + 1)
theorem fac_same : ∀ v, v < 13 → fac1 v = ff v v := by decide +kernel
def rPerm : List V → Hp → VK → Prop := fun vs H Q => ∃ a b : Nat, vs = [.int a, .int b] ∧ b ≤ a ∧ a ≤ 12 ∧ Q (.int (ff a b : Nat)) H
theorem cr_perm {X : Cx} : CallR X (.builtin "math.perm") rPerm := by
  intro pins s σ H vs us Q I r h
  obtain ⟨a, b, rfl, h1, h2, q⟩ := h
  obtain ⟨t, u, rfl⟩ := Vals.int2 r
  refine PySem.W.mc_perm (by omega) (by omega) (by omega) (by omega) fun _ => ?_
  rw [perm_ff a (by omega) b (by omega) h1]
  exact ⟨.int _, H, I.tok _, ⟨_, rfl⟩, q⟩
def rFac : List V → Hp → VK → Prop := fun vs H Q => ∃ a : Nat, vs = [.int a] ∧ a ≤ 12 ∧ Q (.int (ff a a : Nat)) H
theorem cr_fac {X : Cx} : CallR X (.builtin "math.factorial") rFac := by
  intro pins s σ H vs us Q I r h
  obtain ⟨a, rfl, h2, q⟩ := h
  obtain ⟨u, rfl, ru⟩ := vals1 r
  obtain ⟨t, rfl⟩ := ru
  refine PySem.W.mc_factorial (by omega) (by omega) fun _ => ?_
  rw [Int.toNat_natCast, fac_ff a (by omega)]
  exact ⟨.int _, H, I.tok _, ⟨_, rfl⟩, q⟩
/-! t + u, both known; u not empty -/
def rCatG : R2 := fun x y H Q => ∃ (a b : Addr) (xs ys : List Int), x = .ref a ∧ y = .ref b ∧ GT H a xs ∧ GT H b ys ∧ ys ≠ [] ∧ xs.length + ys.length ≤ sizeLine ∧
  (xs = [] → Q (.ref b) H) ∧ (xs ≠ [] → ∀ p (o : Obj), H p = none → o.dict = none → Q (.ref p) (upd H p (.frz o (.tup ((xs ++ ys).map V.int)))))
theorem op_catG {X : Cx} : OpR X (binaryOp .Add) rCatG := by
  intro pins s σ H x y v u Q I rx ry h
  obtain ⟨a, b, xs, ys, rfl, rfl, ha, hb, ny, hz, q0, q2⟩ := h
  cases rx
  cases ry
  obtain ⟨its, r1, p1, _⟩ := I.tuple (ha.sq (K := X.K))
  obtain ⟨its2, r2, p2, _⟩ := I.tuple (hb.sq (K := X.K))
  by_cases ne : xs = []
  · subst ne
    cases r1
    obtain ⟨⟨cls, dd, data, sl⟩, ho, hc, n, hd⟩ := id p1
    obtain ⟨⟨cls2, dd2, data2, sl2⟩, ho2, hc2, n2, hd2⟩ := id p2
    simp only at hc hd hc2 hd2
    subst hc hd hc2 hd2
    exact concat_meets ⟨_, ho, rfl⟩ ⟨_, ho2, rfl⟩ noFill_tuple_add seq_tuple_add PySem.F.slot_tuple_add PySem.F.entry_tuple_add (PySem.F.args_tuple_add_2 _ _) (tuple_addW0 a b _ _ n n2 dd dd2 sl sl2 rfl) ⟨ho, ho2, ⟨.ref b, H, I, rfl, q0 rfl⟩⟩
  · have nx : its ≠ [] := fun z => ne (by have := r1.nil_iff.mp z; simpa using this)
    have ny2 : its2 ≠ [] := fun z => ny (by have := r2.nil_iff.mp z; simpa using this)
    have l1 := r1.length
    have l2 := r2.length
    rw [List.length_map] at l1 l2
    refine HT.cat_tup p1 p2 nx (fun z => absurd z ny2) (fun z => ?_) (by rw [← l1, ← l2]; exact hz)
    have ok : ObjOk X.prog X.w (upd H s.heap.objs.size (.frz { cls := .type "tuple", data := .seq (its ++ its2).toArray } (.tup ((xs ++ ys).map V.int)))) (s.heap.push { cls := .type "tuple", data := .seq (its ++ its2).toArray }) s.heap.objs.size (.frz { cls := .type "tuple", data := .seq (its ++ its2).toArray } (.tup ((xs ++ ys).map V.int))) :=
      ⟨Heap.get?_push_size _ rfl, by rw [List.length_map, List.length_append]; exact hz, its ++ its2, by rw [List.map_append]; exact r1.append r2, IsTup.new _ _⟩
    exact ⟨.ref s.heap.objs.size, _, I.laid (t' := s.toks) (fun b ob q => Heap.get?_push_of_some _ q) (Nat.le_refl _) ok, rfl, q2 ne _ _ (I.hok.fresh (Nat.le_refl _)) rfl⟩
theorem rd_catG {H : Hp} {Q : VK} {a b : Addr} {es fs : List Int} (h : GT H a es) (h2 : GT H b fs) (ne : fs ≠ []) (l : es.length + fs.length ≤ 1000) (q : ∀ H2 p, Same H H2 → GT H2 p (es ++ fs) → Q (.ref p) H2) : rCatG (.ref a) (.ref b) H Q :=
  ⟨a, b, es, fs, rfl, rfl, h, h2, ne, Nat.le_of_lt (small1000 l), fun e => q H b (Same.refl _) (by rw [e]; exact h2), fun _ p o np d => q _ p (same_new (Same.refl _) np) ⟨o, upd_same, d⟩⟩
/-! len(d) -/
def rLenG (P : Program) (w : World) : List V → Hp → VK → Prop := fun xs H Q => ∃ (d : Addr) (es : List GE), xs = [V.ref d] ∧ H d = some (DGO P w d es) ∧ GsAt H es ∧ es.length < 100000 ∧ Q (.int ((es.length : Nat) : Int)) H
theorem call_lenG {X : Cx} : CallR X (.builtin "len") (rLenG X.prog X.w) := by
  intro pins s σ H xs us Q I r h
  obtain ⟨d, es, rfl, hd, ka, hl, q⟩ := h
  obtain ⟨u, rfl, rx⟩ := vals1 r
  obtain rfl : u = .ref d := rx
  obtain ⟨h1, h2, ys, rel, dd⟩ := dg_get I hd ka
  have le : es.length = ys.length := Paired.length rel
  refine call_len_dictH h1 dd (by rw [← le]; omega) ?_
  rw [← le]
  exact ⟨.int ((es.length : Nat) : Int), H, I.tok _, ⟨_, rfl⟩, q⟩
theorem rd_lenG2 {P : Program} {w : World} {H : Hp} {Q : VK} {d : Addr} {es : List GE} (g : Dg P w H d es) (l : es.length < 100000) (q : Q (.int ((es.length : Nat) : Int)) H) : rLenG P w [.ref d] H Q := ⟨d, es, rfl, g.at_, g.ks, l, q⟩

theorem rd_ninL2 {K : PySem.W.Frag} {H : Hp} {Q : VK} {p : Addr} {xs : List V} {x : V} (h : H p = some (.lst xs)) (fx : flatV x = true) (fs : xs.all flatV = true) (q : Q (.bl (!inV x xs)) H) : rIn K true x (.ref p) H Q := ⟨p, xs, rfl, .inl (SqL.of h), fx, fs, q⟩
def c1h (v : Int) (k : Nat) : Int := (v + k) % 100
theorem c1h_next (v : Int) (k : Nat) : c1h v (k + 1) = (c1h v k + 1).fmod 100 := by
  rw [Int.fmod_eq_emod_of_nonneg _ (by decide)]
  unfold c1h
  omega
theorem c1h_zero {v : Int} (h : 0 ≤ v) (k : v < 100) : c1h v 0 = v := by unfold c1h; omega
theorem c1h_in (v : Int) (k : Nat) : 0 ≤ c1h v k ∧ c1h v k ≤ 99 := by unfold c1h; omega
theorem c1h_inj (v : Int) (a b : Nat) (ha : a ≤ 5) (hb : b ≤ 5) (e : c1h v a = c1h v b) : a = b := by unfold c1h at e; omega
theorem nd_mapI {l : List Int} (nd : l.Nodup) {f : Int → Int} (h : ∀ a b, f a = f b → a = b) : (l.map f).Nodup := List.pairwise_map.mpr (nd.imp fun n e => n (h _ _ e))
theorem sg_kind {e : Int} {kd : Nat} (k9 : kd ≤ 9) (h1 : 100 * (kd : Int) ≤ e) (h2 : e ≤ 100 * (kd : Int) + 99) : sg e = 48 + kd := by
  unfold sg
  rw [if_neg (by omega), Int.fdiv_eq_ediv_of_nonneg _ (by decide)]
  omega
/-- an image as a key -/
def nkI (g : List Int) : NestedKey := .tup (g.map NestedKey.num)
theorem nkI_inj {a b : List Int} (h : nkI a = nkI b) : a = b := by
  unfold nkI at h
  injection h with h
  exact (List.map_inj_right fun x y e => by injection e).mp h
theorem gall_nums {H : Hp} : ∀ g : List Int, GAll H (g.map NestedKey.num) (g.map V.int)
  | [] => .nil
  | x :: g => .cons (.num x) (gall_nums g)
theorem depth_numsI : ∀ g : List Int, NestedKey.depthAll (g.map NestedKey.num) ≤ 1
  | [] => by simp [NestedKey.depthAll]
  | x :: g => by
    have := depth_numsI g
    simp [NestedKey.depthAll, NestedKey.depth]
    omega
theorem gk_tg {H : Hp} {b : Addr} {g : List Int} (h : TG H b g) : GK H (nkI g) b := by
  refine ⟨.tup (xs := g.map V.int) ?_ (gall_nums g), ?_⟩
  · rcases h with h | ⟨o, h, _⟩
    · exact .inl h
    · exact .inr ⟨o, h⟩
  · have := depth_numsI g
    unfold nkI
    simp [NestedKey.depth]
    omega
structure MetI (P : Program) (w : World) (H : Hp) (d : Addr) (met : List (List Int)) : Prop where
  ex : ∃ xs, Dg P w H d xs ∧ keysG xs = met.map nkI
theorem MetI.same {P : Program} {w : World} {H H' : Hp} {d : Addr} {met : List (List Int)} (m : MetI P w H d met) (S : Same H H') : MetI P w H' d met := by
  obtain ⟨xs, h, e⟩ := m.ex
  exact ⟨xs, h.same S, e⟩
theorem MetI.mutL {P : Program} {w : World} {H : Hp} {d l : Addr} {met : List (List Int)} {vs : List V} {o : HO} (m : MetI P w H d met) (hl : H l = some (.lst vs)) : MetI P w (upd H l o) d met := by
  obtain ⟨xs, h, e⟩ := m.ex
  exact ⟨xs, h.mut (fun k => by have := h.at_; rw [k, hl] at this; cases this) (Kf.mut hl (by intro ys z; cases z) (by intro a v z; cases z)), e⟩
theorem key_len {P : Program} {w : World} {H : Hp} {d : Addr} {met : List (List Int)} {xs : List GE} (e : keysG xs = met.map nkI) : xs.length = met.length := by
  have := congrArg List.length e
  unfold keysG at this
  rwa [List.length_map, List.length_map] at this
theorem MetI.put {P : Program} {w : World} {H : Hp} {Q : Hp → Prop} {d b : Addr} {met : List (List Int)} {g : List Int} {v : V} (m : MetI P w H d met) (hb : TG H b g) (hl : met.length < 100000)
    (q : ∀ H2, (∃ o, H2 = upd H d o) → (∃ xs, H d = some (DGO P w d xs)) → MetI P w H2 d (if g ∈ met then met else met ++ [g]) → Q H2) : PtG P w (.ref d) (.ref b) v H Q := by
  obtain ⟨xs, h, e⟩ := m.ex
  have lx := key_len (P := P) (w := w) (H := H) (d := d) e
  refine rd_PtG h (gk_tg hb) (by omega) fun H2 e2 _ g2 => q H2 ⟨_, e2⟩ ⟨xs, h.at_⟩ ⟨_, g2, ?_⟩
  have mi : nkI g ∈ keysG xs ↔ g ∈ met := by
    rw [e, List.mem_map]
    exact ⟨fun ⟨a, ha, k⟩ => by rw [← nkI_inj k]; exact ha, fun k => ⟨g, k, rfl⟩⟩
  rw [keysG_put]
  by_cases k : g ∈ met
  · rw [if_pos k, if_pos (mi.mpr k), e]
  · rw [if_neg k, if_neg (fun z => k (mi.mp z)), e, List.map_append, List.map_singleton]
structure WaysAt (H : Hp) (W : Addr) (ws : List Addr) (ways : List WI) : Prop where
  len : ws.length = ways.length
  at_ : ∀ (i : Nat) u hU, ws[i]? = some u → ways[i]? = some hU → ∃ x y, u ≠ W ∧ y ≠ W ∧ H u = some (.lst [.ref x, .ref y]) ∧ TG H x hU.1 ∧ H y = some (.lst (hU.2.map fun c => V.str (txt c)))
theorem WaysAt.same {H H' : Hp} {W : Addr} {ws : List Addr} {ways : List WI} (k : WaysAt H W ws ways) (S : Same H H') : WaysAt H' W ws ways := ⟨k.len, fun i u hU a b => by
  obtain ⟨x, y, h1, h2, h3, h4, h5⟩ := k.at_ i u hU a b
  exact ⟨x, y, h1, h2, S _ _ h3, h4.same S, S _ _ h5⟩⟩
theorem WaysAt.mut {H : Hp} {W : Addr} {ws : List Addr} {ways : List WI} {vs : List V} {o : HO} (k : WaysAt H W ws ways) (hW : H W = some (.lst vs)) : WaysAt (upd H W o) W ws ways := ⟨k.len, fun i u hU a b => by
  obtain ⟨x, y, h1, h2, h3, h4, h5⟩ := k.at_ i u hU a b
  exact ⟨x, y, h1, h2, (upd_ne h1).trans h3, h4.mut hW, (upd_ne h2).trans h5⟩⟩
theorem WaysAt.mutD {P : Program} {w : World} {H : Hp} {W d : Addr} {ws : List Addr} {ways : List WI} {xs : List GE} {o : HO} (k : WaysAt H W ws ways) (hd : H d = some (DGO P w d xs)) : WaysAt (upd H d o) W ws ways := ⟨k.len, fun i u hU a b => by
  obtain ⟨x, y, h1, h2, h3, h4, h5⟩ := k.at_ i u hU a b
  refine ⟨x, y, h1, h2, (upd_ne fun e => by rw [e, hd] at h3; cases h3).trans h3, h4.keep fun u2 e2 => (upd_ne fun e => ?_).trans e2, (upd_ne fun e => by rw [e, hd] at h5; cases h5).trans h5⟩
  rcases h4 with h4 | ⟨ob, h4, _⟩ <;> rw [e, hd] at h4 <;> cases h4⟩
theorem WaysAt.snoc {H : Hp} {W : Addr} {ws : List Addr} {ways : List WI} (k : WaysAt H W ws ways) {u x y : Addr} {h : List Int} {U : List (List Nat)} (h1 : u ≠ W) (h2 : y ≠ W) (h3 : H u = some (.lst [.ref x, .ref y])) (h4 : TG H x h) (h5 : H y = some (.lst (U.map fun c => V.str (txt c)))) : WaysAt H W (ws ++ [u]) (ways ++ [(h, U)]) := by
  refine ⟨by rw [List.length_append, List.length_append, k.len]; rfl, fun i u2 hU a b => ?_⟩
  by_cases hi : i < ws.length
  · rw [List.getElem?_append_left hi] at a
    rw [List.getElem?_append_left (by rw [← k.len]; exact hi)] at b
    exact k.at_ i u2 hU a b
  · have li := (List.getElem?_eq_some_iff.mp a).1
    rw [List.length_append, List.length_singleton] at li
    have e : i = ws.length := by omega
    subst e
    rw [List.getElem?_append_right (Nat.le_refl _), Nat.sub_self] at a
    rw [k.len, List.getElem?_append_right (Nat.le_refl _), Nat.sub_self] at b
    cases a
    cases b
    exact ⟨x, y, h1, h2, h3, h4, h5⟩
/-! bounds -/
theorem row_len (g : List Int) (t : Nat) : ∀ k, (rowI g t k).length ≤ k := fun k => by
  induction k with
  | zero => exact Nat.le_refl _
  | succ k ih =>
    unfold rowI at ih ⊢
    rw [List.range_succ, List.flatMap_append, List.length_append]
    have : ([k].flatMap fun s => cellI g t s).length ≤ 1 := by
      rw [List.flatMap_singleton]
      unfold cellI
      split <;> simp
    omega
theorem mvsP_len (g : List Int) (k : Nat) : (mvsP g k).length ≤ k * g.length := by
  induction k with
  | zero => simp [mvsP]
  | succ k ih =>
    unfold mvsP at ih ⊢
    rw [List.range_succ, List.flatMap_append, List.length_append, List.flatMap_singleton, Nat.succ_mul]
    have := row_len g k g.length
    omega
theorem mvs_in {g : List Int} (R : Rg g) : ∀ a ∈ mvsI g, a.length = g.length ∧ Rg a := fun a ha => by
  unfold mvsI mvsP rowI at ha
  obtain ⟨t, _, ha⟩ := List.mem_flatMap.mp ha
  obtain ⟨s, hs, ha⟩ := List.mem_flatMap.mp ha
  unfold cellI at ha
  split at ha
  · rw [List.mem_singleton.mp ha]
    exact ⟨mv_len g t s, mv_rg R (List.mem_range.mp hs)⟩
  · exact absurd ha List.not_mem_nil
theorem arr_len {n : Nat} {vals : List Int} (h : vals.length ≤ 5) : ∀ k, (arrI n vals k).length ≤ 6 ^ k
  | 0 => Nat.le_refl 1
  | k + 1 => by
    have one : ∀ row, (stepI n vals row).length ≤ 6 := fun row => by
      unfold stepI
      rw [List.length_append, List.length_map]
      have := List.length_filter_le (fun l => !decide (l ∈ row)) vals
      split <;> simp <;> omega
    have all : ∀ l : List (List Int), (l.flatMap (stepI n vals)).length ≤ 6 * l.length := by
      intro l
      induction l with
      | nil => simp
      | cons a l ih =>
        rw [List.flatMap_cons, List.length_append, List.length_cons]
        have := one a
        omega
    have := all (arrI n vals k)
    have ih := arr_len (n := n) h k
    show ((arrI n vals k).flatMap (stepI n vals)).length ≤ 6 ^ (k + 1)
    rw [Nat.pow_succ]
    omega
theorem arr_row {n : Nat} {vals : List Int} : ∀ k, ∀ row ∈ arrI n vals k, row.length = k
  | 0, row, h => by rw [List.mem_singleton.mp h]; rfl
  | k + 1, row, h => by
    obtain ⟨r, hr, h⟩ := List.mem_flatMap.mp h
    have lr := arr_row k r hr
    unfold stepI at h
    rcases List.mem_append.mp h with z | z
    · split at z
      · rw [List.mem_singleton.mp z, List.length_append, lr]; rfl
      · exact absurd z List.not_mem_nil
    · obtain ⟨l, _, rfl⟩ := List.mem_map.mp z
      rw [List.length_append, lr]; rfl
end Rv
namespace K42
open PySem PySem.Spec PyProof.Rows L2 Rv RL RQ RV RX
def top (i : Nat) : Stmt := PySem.Challenge.pw_redolots_k42_count_goals.main.body.getD i (.Pass ⟨0, 0, 0, 0⟩)
abbrev scheck_image : Stmt := top 10
theorem sccheck_image : FnScope ["image", "block", "entry"] ["image"] (defScope scheck_image) := ⟨rfl, rfl, rfl, by decide +kernel, rfl, by decide +kernel, by decide +kernel⟩
abbrev slook : Stmt := top 11
theorem sclook : FnScope ["image", "entry"] ["image"] (defScope slook) := ⟨rfl, rfl, rfl, by decide +kernel, rfl, by decide +kernel, by decide +kernel⟩
abbrev s_sign : Stmt := top 12
theorem sc_sign : FnScope ["entry"] ["entry"] (defScope s_sign) := ⟨rfl, rfl, rfl, by decide +kernel, rfl, by decide +kernel, by decide +kernel⟩
abbrev sfollowed : Stmt := top 14
theorem scfollowed : FnScope ["leads", "block", "path"] ["leads", "block"] (defScope sfollowed) := ⟨rfl, rfl, rfl, by decide +kernel, rfl, by decide +kernel, by decide +kernel⟩
abbrev sall_rings : Stmt := top 15
theorem scall_rings : FnScope ["leads", "paths", "block", "path"] ["leads"] (defScope sall_rings) := ⟨rfl, rfl, rfl, by decide +kernel, rfl, by decide +kernel, by decide +kernel⟩
abbrev scheck_renaming : Stmt := top 17
theorem sccheck_renaming : FnScope ["before", "after", "values", "entry"] ["before", "after"] (defScope scheck_renaming) := ⟨rfl, rfl, rfl, by decide +kernel, rfl, by decide +kernel, by decide +kernel⟩
abbrev srings : Stmt := top 18
theorem scrings : FnScope ["before", "after"] ["before", "after"] (defScope srings) := ⟨rfl, rfl, rfl, by decide +kernel, rfl, by decide +kernel, by decide +kernel⟩
abbrev s_leads : Stmt := top 19
theorem sc_leads : FnScope ["before", "after", "entry"] ["before", "after"] (defScope s_leads) := ⟨rfl, rfl, rfl, by decide +kernel, rfl, by decide +kernel, by decide +kernel⟩
abbrev sobstacle : Stmt := top 21
theorem scobstacle : FnScope ["before", "after", "turned"] ["before", "after"] (defScope sobstacle) := ⟨rfl, rfl, rfl, by decide +kernel, rfl, by decide +kernel, by decide +kernel⟩
abbrev scount_goals : Stmt := top 22
theorem sccount_goals : FnScope ["blocks", "values", "through"] ["blocks", "values"] (defScope scount_goals) := ⟨rfl, rfl, rfl, by decide +kernel, rfl, by decide +kernel, by decide +kernel⟩
abbrev s_is_crowded : Stmt := top 23
theorem sc_is_crowded : FnScope ["before", "after"] ["before", "after"] (defScope s_is_crowded) := ⟨rfl, rfl, rfl, by decide +kernel, rfl, by decide +kernel, by decide +kernel⟩
abbrev s_is_of_one_kind : Stmt := top 24
theorem sc_is_of_one_kind : FnScope ["image", "sign"] ["image"] (defScope s_is_of_one_kind) := ⟨rfl, rfl, rfl, by decide +kernel, rfl, by decide +kernel, by decide +kernel⟩
abbrev s_law_box : Stmt := top 26
theorem sc_law_box : FnScope ["script", "at", "cell"] ["script", "at"] (defScope s_law_box) := ⟨rfl, rfl, rfl, by decide +kernel, rfl, by decide +kernel, by decide +kernel⟩
abbrev s_law_take : Stmt := top 27
theorem sc_law_take : FnScope ["box", "limit", "digit", "mixed"] ["box", "limit"] (defScope s_law_take) := ⟨rfl, rfl, rfl, by decide +kernel, rfl, by decide +kernel, by decide +kernel⟩
abbrev s_law_values : Stmt := top 28
theorem sc_law_values : FnScope ["box", "many", "kind", "found", "at", "value", "turn"] ["box", "many"] (defScope s_law_values) := ⟨rfl, rfl, rfl, by decide +kernel, rfl, by decide +kernel, by decide +kernel⟩
abbrev s_law_laid : Stmt := top 29
theorem sc_law_laid : FnScope ["box", "blocks", "values", "free", "laid", "value", "at", "k"] ["box", "blocks", "values"] (defScope s_law_laid) := ⟨rfl, rfl, rfl, by decide +kernel, rfl, by decide +kernel, by decide +kernel⟩
abbrev s_law_sign : Stmt := top 30
theorem sc_law_sign : FnScope ["entry"] ["entry"] (defScope s_law_sign) := ⟨rfl, rfl, rfl, by decide +kernel, rfl, by decide +kernel, by decide +kernel⟩
abbrev s_law_view : Stmt := top 31
theorem sc_law_view : FnScope ["image", "entry"] ["image"] (defScope s_law_view) := ⟨rfl, rfl, rfl, by decide +kernel, rfl, by decide +kernel, by decide +kernel⟩
abbrev s_law_number : Stmt := top 32
theorem sc_law_number : FnScope ["told"] ["told"] (defScope s_law_number) := ⟨rfl, rfl, rfl, by decide +kernel, rfl, by decide +kernel, by decide +kernel⟩
abbrev s_law_loop : Stmt := top 33
theorem sc_law_loop : FnScope ["before", "after", "first", "row", "turn", "at"] ["before", "after", "first"] (defScope s_law_loop) := ⟨rfl, rfl, rfl, by decide +kernel, rfl, by decide +kernel, by decide +kernel⟩
abbrev s_law_loops : Stmt := top 34
theorem sc_law_loops : FnScope ["before", "after", "found", "first", "row"] ["before", "after"] (defScope s_law_loops) := ⟨rfl, rfl, rfl, by decide +kernel, rfl, by decide +kernel, by decide +kernel⟩
abbrev s_law_one_kind : Stmt := top 35
theorem sc_law_one_kind : FnScope ["image", "signs", "entry", "sign"] ["image"] (defScope s_law_one_kind) := ⟨rfl, rfl, rfl, by decide +kernel, rfl, by decide +kernel, by decide +kernel⟩
abbrev s_law_reason : Stmt := top 36
theorem sc_law_reason : FnScope ["before", "after", "loops"] ["before", "after"] (defScope s_law_reason) := ⟨rfl, rfl, rfl, by decide +kernel, rfl, by decide +kernel, by decide +kernel⟩
abbrev s_law_arranged : Stmt := top 37
theorem sc_law_arranged : FnScope ["blocks", "values", "found", "at", "longer", "row", "value"] ["blocks", "values"] (defScope s_law_arranged) := ⟨rfl, rfl, rfl, by decide +kernel, rfl, by decide +kernel, by decide +kernel⟩
abbrev s_law_moved_on : Stmt := top 38
theorem sc_law_moved_on : FnScope ["image", "found", "target", "source", "laid"] ["image"] (defScope s_law_moved_on) := ⟨rfl, rfl, rfl, by decide +kernel, rfl, by decide +kernel, by decide +kernel⟩
abbrev s_law_reached : Stmt := top 39
theorem sc_law_reached : FnScope ["image", "met", "ways", "at", "after", "view"] ["image"] (defScope s_law_reached) := ⟨rfl, rfl, rfl, by decide +kernel, rfl, by decide +kernel, by decide +kernel⟩
abbrev s_law_same_reason : Stmt := top 40
theorem sc_law_same_reason : FnScope ["told", "due", "row", "block"] ["told", "due"] (defScope s_law_same_reason) := ⟨rfl, rfl, rfl, by decide +kernel, rfl, by decide +kernel, by decide +kernel⟩
abbrev s_law_world_holds : Stmt := top 41
theorem sc_law_world_holds : FnScope ["box", "blocks", "values", "before", "many", "after", "due", "told"] ["box"] (defScope s_law_world_holds) := ⟨rfl, rfl, rfl, by decide +kernel, rfl, by decide +kernel, by decide +kernel⟩
abbrev s_law_count : Stmt := top 42
theorem sc_law_count : FnScope ["blocks", "values", "total", "alike", "at", "lines"] ["blocks", "values"] (defScope s_law_count) := ⟨rfl, rfl, rfl, by decide +kernel, rfl, by decide +kernel, by decide +kernel⟩
abbrev slaw : Stmt := top 43
theorem sclaw : FnScope ["script", "at", "box", "blocks", "values", "told"] ["script"] (defScope slaw) := ⟨rfl, rfl, rfl, by decide +kernel, rfl, by decide +kernel, by decide +kernel⟩
abbrev sInvalidImageu_initu : Stmt := inClass (top 4) 0
theorem scInvalidImageu_initu : FnScope ["self", "block"] ["self", "block"] (defScope sInvalidImageu_initu) := ⟨rfl, rfl, rfl, by decide +kernel, rfl, by decide +kernel, by decide +kernel⟩
abbrev sUndecidedu_initu : Stmt := inClass (top 5) 0
theorem scUndecidedu_initu : FnScope ["self", "rings"] ["self", "rings"] (defScope sUndecidedu_initu) := ⟨rfl, rfl, rfl, by decide +kernel, rfl, by decide +kernel, by decide +kernel⟩
theorem okInit_InvalidImage {P : Program} {w : World} {K : PySem.W.Frag} {mg : Str → Option Value} {base : Heap} {C fI : Addr} {fd : FuncData} (ET : ErrT K mg C fI "InvalidImage" "block") (F : Fun K "__init__" "InvalidImage.__init__" sInvalidImageu_initu fI fd) : FnOk P w K mg base CX0 1 fI fd ["self", "block"] (spErr C "block") := by
  refine F.ok scInvalidImageu_initu (fun vs H Q E h => ?_) (fun cdv A outer s H vs Q E hr h => ?_)
  · obtain ⟨a, v, rfl, _⟩ := h
    rfl
  · obtain ⟨a, v, rfl, ea, q⟩ := h
    exact ⟨_, pss_one (ps_ost (pv 0) (pv 1)), _, rfl, _, rfl, a, C, rfl, ET.ox, ET.noN, .inl ⟨ea, fun d nd ne => q d nd ne⟩⟩
theorem okInit_Undecided {P : Program} {w : World} {K : PySem.W.Frag} {mg : Str → Option Value} {base : Heap} {C fI : Addr} {fd : FuncData} (ET : ErrT K mg C fI "Undecided" "rings") (F : Fun K "__init__" "Undecided.__init__" sUndecidedu_initu fI fd) : FnOk P w K mg base CX0 1 fI fd ["self", "rings"] (spErr C "rings") := by
  refine F.ok scUndecidedu_initu (fun vs H Q E h => ?_) (fun cdv A outer s H vs Q E hr h => ?_)
  · obtain ⟨a, v, rfl, _⟩ := h
    rfl
  · obtain ⟨a, v, rfl, ea, q⟩ := h
    exact ⟨_, pss_one (ps_ost (pv 0) (pv 1)), _, rfl, _, rfl, a, C, rfl, ET.ox, ET.noN, .inl ⟨ea, fun d nd ne => q d nd ne⟩⟩
structure Top (K : PySem.W.Frag) (mg : Str → Option Value) : Prop where
  d_check_image : ∃ f fd, Def K mg "check_image" scheck_image ["image"] f fd
  d_look : ∃ f fd, Def K mg "look" slook ["image"] f fd
  d__sign : ∃ f fd, Def K mg "_sign" s_sign ["entry"] f fd
  d_followed : ∃ f fd, Def K mg "followed" sfollowed ["leads", "block"] f fd
  d_all_rings : ∃ f fd, Def K mg "all_rings" sall_rings ["leads"] f fd
  d_check_renaming : ∃ f fd, Def K mg "check_renaming" scheck_renaming ["before", "after"] f fd
  d_rings : ∃ f fd, Def K mg "rings" srings ["before", "after"] f fd
  d__leads : ∃ f fd, Def K mg "_leads" s_leads ["before", "after"] f fd
  d_obstacle : ∃ f fd, Def K mg "obstacle" sobstacle ["before", "after"] f fd
  d_count_goals : ∃ f fd, Def K mg "count_goals" scount_goals ["blocks", "values"] f fd
  d__is_crowded : ∃ f fd, Def K mg "_is_crowded" s_is_crowded ["before", "after"] f fd
  d__is_of_one_kind : ∃ f fd, Def K mg "_is_of_one_kind" s_is_of_one_kind ["image"] f fd
  d__law_box : ∃ f fd, Def K mg "_law_box" s_law_box ["script", "at"] f fd
  d__law_take : ∃ f fd, Def K mg "_law_take" s_law_take ["box", "limit"] f fd
  d__law_values : ∃ f fd, Def K mg "_law_values" s_law_values ["box", "many"] f fd
  d__law_laid : ∃ f fd, Def K mg "_law_laid" s_law_laid ["box", "blocks", "values"] f fd
  d__law_sign : ∃ f fd, Def K mg "_law_sign" s_law_sign ["entry"] f fd
  d__law_view : ∃ f fd, Def K mg "_law_view" s_law_view ["image"] f fd
  d__law_number : ∃ f fd, Def K mg "_law_number" s_law_number ["told"] f fd
  d__law_loop : ∃ f fd, Def K mg "_law_loop" s_law_loop ["before", "after", "first"] f fd
  d__law_loops : ∃ f fd, Def K mg "_law_loops" s_law_loops ["before", "after"] f fd
  d__law_one_kind : ∃ f fd, Def K mg "_law_one_kind" s_law_one_kind ["image"] f fd
  d__law_reason : ∃ f fd, Def K mg "_law_reason" s_law_reason ["before", "after"] f fd
  d__law_arranged : ∃ f fd, Def K mg "_law_arranged" s_law_arranged ["blocks", "values"] f fd
  d__law_moved_on : ∃ f fd, Def K mg "_law_moved_on" s_law_moved_on ["image"] f fd
  d__law_reached : ∃ f fd, Def K mg "_law_reached" s_law_reached ["image"] f fd
  d__law_same_reason : ∃ f fd, Def K mg "_law_same_reason" s_law_same_reason ["told", "due"] f fd
  d__law_world_holds : ∃ f fd, Def K mg "_law_world_holds" s_law_world_holds ["box"] f fd
  d__law_count : ∃ f fd, Def K mg "_law_count" s_law_count ["blocks", "values"] f fd
  d_law : ∃ f fd, Def K mg "law" slaw ["script"] f fd
  b_abs : mg "abs" = none
  b_all : mg "all" = none
  b_bool : mg "bool" = none
  b_enumerate : mg "enumerate" = none
  b_int : mg "int" = none
  b_isinstance : mg "isinstance" = none
  b_len : mg "len" = none
  b_list : mg "list" = none
  b_max : mg "max" = none
  b_min : mg "min" = none
  b_range : mg "range" = none
  b_set : mg "set" = none
  b_sorted : mg "sorted" = none
  b_str : mg "str" = none
  b_sum : mg "sum" = none
  b_tuple : mg "tuple" = none
  k_EMPTY : ∃ u, mg "EMPTY" = some u ∧ RelV (.int (-1)) u
  k__GREATEST : ∃ u, mg "_GREATEST" = some u ∧ RelV (.int (999)) u
  k__MOST_BLOCKS : ∃ u, mg "_MOST_BLOCKS" = some u ∧ RelV (.int (12)) u
  e_InvalidImage : ∃ (fI : Addr) (fd : FuncData), ErrT K mg (atTop K "InvalidImage") fI "InvalidImage" "block" ∧ Fun K "__init__" "InvalidImage.__init__" sInvalidImageu_initu fI fd ∧ Binds K fd ["self", "block"] []
  e_Undecided : ∃ (fI : Addr) (fd : FuncData), ErrT K mg (atTop K "Undecided") fI "Undecided" "rings" ∧ Fun K "__init__" "Undecided.__init__" sUndecidedu_initu fI fd ∧ Binds K fd ["self", "rings"] []
  c_InvalidImage : ∃ u, mg "InvalidImage" = some u ∧ RelV (.ref (atTop K "InvalidImage")) u
  c_NotRenaming : ∃ u, mg "NotRenaming" = some u ∧ RelV (.ref (atTop K "NotRenaming")) u
  c_Undecided : ∃ u, mg "Undecided" = some u ∧ RelV (.ref (atTop K "Undecided")) u
  e_NotRenaming : Err0 K mg (atTop K "NotRenaming") "NotRenaming"
  g_perm : mg "perm" = some (.builtin "math.perm")
  g_factorial : mg "factorial" = some (.builtin "math.factorial")
local macro_rules | `(tactic| walk_at "hp") => `(tactic| first
  | assumption
  | exact upd_same
  | ((refine (upd_ne (by assumption)).trans ?_); walk_at "hp")
  | ((refine (upd_ne (Ne.symm (by assumption))).trans ?_); walk_at "hp")
  | ((refine Rv.back (by assumption) ?_); walk_at "hp")
  | ((refine Rv.Wg.lst (by assumption) (by assumption) ?_); walk_at "hp")
  | ((refine Rv.Wd.lst (by assumption) (by assumption) ?_); walk_at "hp"))
local macro_rules | `(tactic| walk_at "r1") => `(tactic| (first
  | ((with_reducible refine' rd_var ?hv ?_); (case hv => exact rfl))
  | with_reducible refine rd_c ?_
  | with_reducible refine rd_seq ?_
  | with_reducible refine rd_next ?_
  | with_reducible refine rd_asg ?_
  | with_reducible refine rd_name ?_
  | with_reducible refine rd_op ?_
  | with_reducible refine rd_un ?_
  | with_reducible refine rd_U ?_
  | with_reducible refine rd_I0 ?_
  | ((with_reducible refine' rd_I ?hc ?_); (case hc => first | exact .inr ⟨by decide, by decide⟩ | exact .inl ⟨by decide, by decide⟩ | exact ⟨by decide, by decide, by decide⟩ | exact ⟨by decide, by decide⟩ | (show (_ : Int) ≠ _; decide) | assumption))
  | ((with_reducible refine' rd_eq ?hc ?_); (case hc => exact rfl))
  | ((with_reducible refine' rd_ne ?hc ?_); (case hc => exact rfl))
  | with_reducible refine rd_test ?_
  | with_reducible refine rd_B ?_
  | with_reducible refine rd_k ?_
  | with_reducible refine rd_not ?_
  | with_reducible refine rd_notV ?_
  | with_reducible refine rd_and ?_
  | with_reducible refine rd_or ?_
  | with_reducible refine rd_andV ?_
  | with_reducible refine rd_if ?_
  | with_reducible refine rd_chain ?_
  | with_reducible refine rd_sub ?_
  | with_reducible refine rd_gcons ?_
  | with_reducible refine rd_gnil ?_
  | with_reducible refine rd_ret ?_
  | with_reducible refine rd_drop ?_
  | with_reducible refine rd_ifS ?_
  | with_reducible refine rd_cons ?_
  | with_reducible refine rd_nil ?_
  | with_reducible refine rd_CB ?_
  | with_reducible refine rd_call ?_
  | with_reducible refine rd_yes ?_
  | with_reducible refine rd_M1 ?_
  | with_reducible refine rd_intQ ?_
  | with_reducible refine rd_absQ ?_
  | with_reducible refine rd_minQ ?_
  | with_reducible refine rd_for ?_
  | with_reducible refine rd_lc ?_
  | with_reducible refine rd_iTup ?_
  | with_reducible refine rd_iList ?_
  | with_reducible refine rd_iRg1 ?_
  | ((with_reducible refine' rd_ItT ?hz ?_); (case hz => walk_at "hp"))
  | ((with_reducible refine' rd_ItL ?hz ?_); (case hz => walk_at "hp"))
  | ((with_reducible refine' rd_Rg1 ?hz ?_); (case hz => assumption))
  | with_reducible refine rd_sl ?_
  | with_reducible refine rd_noP ?_
  | with_reducible refine rd_part ?_
  | with_reducible refine rd_i ?_
  | ((with_reducible refine' iteNS ?hz ?_); (case hz => assumption))
  | with_reducible refine iteT ?_
  | with_reducible refine iteF ?_
  | with_reducible refine iteNT ?_
  | with_reducible refine iteNF ?_
  | ((with_reducible refine' rd_isiI ?hk ?_); (case hk => first | exact kit_ii | exact kit_ib))
  | ((with_reducible refine' rd_isiT ?hz ?hk ?_); (case hz => walk_at "hp"); (case hk => exact kit_tt))
  | ((with_reducible refine' rd_isiL ?hz ?hk ?_); (case hz => walk_at "hp"); (case hk => exact kit_ll))
  | ((with_reducible refine' rd_lenT ?hz ?_); (case hz => walk_at "hp"))
  | ((with_reducible refine' rd_lenL ?hz ?_); (case hz => walk_at "hp"))
  | ((with_reducible refine' rd_ixT ?hz ?he ?_); (case hz => walk_at "hp"); (case he => first | exact rfl | assumption))
  | ((with_reducible refine' rd_ixM ?hz ?he ?_); (case hz => walk_at "hp"); (case he => first | exact rfl | assumption))
  | ((with_reducible refine' rd_setL ?hz ?he ?_); (case hz => walk_at "hp"); (case he => first | exact rfl | assumption))
  | ((with_reducible refine' rd_gtup ?hz ?he ?_); (case hz => walk_at "hp"); (case he => first | exact rfl | assumption))
  ))
local macro_rules | `(tactic| walk_at "rd") => `(tactic| repeat (walk_at "r1"))
local macro_rules | `(tactic| walk_at "re") => `(tactic| repeat (first
  | walk_at "r1"
  | ((with_reducible refine' rd_BMv ?hv ?hz ?_); (case hv => exact rfl); (case hz => walk_at "hp"))
  | ((with_reducible refine' rd_app ?hz ?hl ?_); (case hz => walk_at "hp"); (case hl => assumption))
  | with_reducible refine rd_iStr ?_
  | with_reducible refine rd_ItS ?_
  ))
local macro_rules | `(tactic| walk_at "rn") => `(tactic| repeat (first
  | walk_at "r1"
  | ((with_reducible refine' rd_BMv ?hv ?hz ?_); (case hv => exact rfl); (case hz => walk_at "hp"))
  | ((with_reducible refine' rd_app ?hz ?hl ?_); (case hz => walk_at "hp"); (case hl => assumption))
  | with_reducible refine rd_iStr ?_
  | with_reducible refine rd_ItS ?_
  | with_reducible refine rd_isN ?_
  | with_reducible refine rd_raise ?_
  | with_reducible refine rd_mkO ?_
  | with_reducible refine rd_callS ?_
  ))
local macro_rules | `(tactic| walk_at "rx") => `(tactic| repeat (first
  | ((with_reducible refine' rd_isG ?hz ?_); (case hz => assumption))
  | ((with_reducible refine' rd_ixO ?hz ?he ?_); (case hz => assumption); (case he => first | exact rfl | assumption))
  | with_reducible refine rd_sk ?_
  | with_reducible refine rd_iStr ?_
  | with_reducible refine rd_ItS ?_
  | ((with_reducible refine' rd_lenO ?hz ?_); (case hz => assumption))
  | ((with_reducible refine' rd_isO ?hz ?_); (case hz => assumption))
  | with_reducible refine rd_iEnO ?_
  | with_reducible refine rd_intOI ?_
  | ((with_reducible refine' rd_lstO ?hz ?_); (case hz => assumption))
  | ((with_reducible refine' rd_ItO ?hz ?_); (case hz => assumption))
  | with_reducible refine rd_tupN ?_
  | with_reducible refine rd_lstN ?_
  | ((with_reducible refine' rd_lstTN ?hz ?_); (case hz => walk_at "hp"))
  | ((with_reducible refine' rd_tupLN ?hz ?_); (case hz => walk_at "hp"))
  | walk_at "r1"
  | ((with_reducible refine' rd_BMv ?hv ?hz ?_); (case hv => exact rfl); (case hz => walk_at "hp"))
  | ((with_reducible refine' rd_app ?hz ?hl ?_); (case hz => walk_at "hp"); (case hl => assumption))
  | with_reducible refine rd_iStr ?_
  | with_reducible refine rd_ItS ?_
  | with_reducible refine rd_isN ?_
  | with_reducible refine rd_raise ?_
  | with_reducible refine rd_mkO ?_
  | with_reducible refine rd_callS ?_
  ))
section
variable {P : Program} {w : World} {K : PySem.W.Frag} {mg : Str → Option Value} {base : Heap}
def sp_law_box (K : PySem.W.Frag) : Sp := fun vs H Q _ => ∃ (a : Addr) (ns : List Int) (k : Nat), vs = [.ref a, .int (k : Int)] ∧ SqL K H a (ns.map V.int) ∧ ns.length ≤ 63 ∧ k ≤ 100 ∧ ∀ H' b, Same H H' → H b = none → (bkL b).I H' → Q (.ref b) H'
set_option maxHeartbeats 4000000 in
theorem ok_law_box (T : Top K mg) {f : Addr} {fd : FuncData} (D : Def K mg "_law_box" s_law_box ["script", "at"] f fd) : FnOk P w K mg base CX0 1 f fd ["script", "at"] (sp_law_box K) := by
  refine D.F.ok sc_law_box (fun vs H Q E h => ?_) (fun cdv A outer s H vs Q E hr h => ?_)
  · obtain ⟨a, ns, k, rfl, _⟩ := h
    rfl
  · obtain ⟨a, ns, k, rfl, hS, hl, k100, q⟩ := h
    refine ⟨_, (C8.pss_cut (ps_if (pt_cmpR op_lt (pv 1) (pe_callB (r := rLenQ K) call_lenQ (by rfl) T.b_len PySem.boot_len (pa_cons (pv 0) pa_nil)) (nomark _)) (pss_one (ps_set (i := 2) sc_law_box.nd rfl (.inl rfl) (pe_ix (r := rIxL K) ix_list (pv 0) (pv 1) (fun _ _ => rfl)))) (pss_one (ps_set (i := 2) sc_law_box.nd rfl (.inl rfl) (pe_op op_add (pe_op op_modN (pe_callTy (r := rIntO) call_intO (by rfl) T.b_int (by decide +kernel) (pa_cons (pe_callB (cr_sum rfl) (by rfl) T.b_sum (by decide +kernel) (pa_cons (pe_slice sl_list (pv 0) po_none (po_some pe_int)) pa_nil)) pa_nil)) pe_int) (pe_op op_mul pe_int (pv 1))))))
    (pss_one (ps_ret (pe_lst (pa_cons (pe_callB call_absQ (by rfl) T.b_abs (by decide +kernel) (pa_cons (pv 2) pa_nil)) (pa_cons (pe_callTy (r := rIntO) call_intO (by rfl) T.b_int (by decide +kernel) (pa_cons (pe_cmpR op_ge (pe_callB call_absQ (by rfl) T.b_abs (by decide +kernel) (pa_cons (pv 2) pa_nil)) (pe_op op_pow pe_int pe_int) (nomark _)) pa_nil)) (pa_cons (pe_op op_add (pe_op op_modN (pe_callTy (r := rIntO) call_intO (by rfl) T.b_int (by decide +kernel) (pa_cons (pv 2) pa_nil)) pe_int) (pe_op op_mul pe_int (pv 1))) (pa_cons pe_int pa_nil)))))))), ?_⟩
    walk_at "rx"
    refine ⟨fun σ H1 => ∃ cell, σ = [some (.ref a), some (.int (k : Int)), some (.int cell)] ∧ Same H H1, ?_, ?_⟩
    · walk_at "rx"
      refine ⟨a, _, rfl, .inl hS, ?_⟩
      walk_at "rx"
      rw [List.length_map]
      by_cases z : k < ns.length
      · rw [decide_eq_true (show (k : Int) < ((ns.length : Nat) : Int) by omega)]
        walk_at "rx"
        refine rd_ixL hS (atI_ints (by omega) (by omega)) ?_
        walk_at "rx"
        exact ⟨_, rfl, Same.refl _⟩
      · rw [decide_eq_false (show ¬ (k : Int) < ((ns.length : Nat) : Int) by omega)]
        walk_at "rx"
        refine rd_slL hS fun l nl => ?_
        obtain ⟨ms, em⟩ : ∃ ms : List Int, cutV (ns.map V.int) none (some 1) = ms.map V.int := ⟨ns.take (HT.sIx (ns.map V.int).length (ns.map V.int).length (some 1) - 0), by
          unfold cutV
          show List.take _ (List.drop 0 (ns.map V.int)) = _
          rw [List.drop_zero, List.map_take]
          rfl⟩
        rw [em]
        obtain ⟨H1, eH, S1, h1⟩ := new_gen (.lst (ms.map V.int)) nl
        rw [← eH]
        refine ⟨l, ms, rfl, SqL.of h1, ?_⟩
        walk_at "rx"
        exact ⟨_, rfl, S1⟩
    · rintro σ H1 ⟨cell, rfl, S1⟩
      walk_at "rx"
      refine rd_intOB ?_
      walk_at "rx"
      refine rd_newQ (by simp) fun H2 b S2 nb hb => q H2 b (S1.trans S2) (S1.free nb) ⟨_, _, _, _, hb⟩
def sp_law_take (_K : PySem.W.Frag) : Sp := fun vs H Q _ => ∃ (B : Box) (m : Int), vs = [.ref B.b, .int m] ∧ IsBk B ∧ B.I H ∧ 0 < m ∧ m ≤ 10 ^ 30 ∧ ∀ H' (d : Nat), Wg B H H' → (d : Int) < m → Q (.int d) H'
set_option maxHeartbeats 4000000 in
theorem ok_law_take (T : Top K mg) {f : Addr} {fd : FuncData} (D : Def K mg "_law_take" s_law_take ["box", "limit"] f fd) : FnOk P w K mg base CX0 1 f fd ["box", "limit"] (sp_law_take K) := by
  refine D.F.ok sc_law_take (fun vs H Q E h => ?_) (fun cdv A outer s H vs Q E hr h => ?_)
  · obtain ⟨B, m, rfl, _⟩ := h
    rfl
  · obtain ⟨B, m, rfl, ⟨b, rfl⟩, i0, m0, m1, q0⟩ := h
    have q : ∀ H' (d : Int), Wg (bkL b) H H' → 0 ≤ d → d < m → Q (.int d) H' := fun H' d w h0 h1 => by
      have z := q0 H' d.toNat w (by omega)
      rw [show ((d.toNat : Nat) : Int) = d by omega] at z
      exact z
    have w0 := Wg.refl i0
    have ⟨A, f, M, c, hb⟩ := i0
    have m9 : m ≠ 0 := by omega
    show _
    refine ⟨_, (pss_cons (ps_asg (pe_op op_add (pe_ix (r := rIxL K) ix_list (pv 0) pe_int (fun _ _ => rfl)) pe_int) (pg_sub (pv 0) pe_int set_list))
    (pss_cons (ps_if (PW.pt (pw_and (pt_cmpR op_eq (pe_ix (r := rIxL K) ix_list (pv 0) pe_int (fun _ _ => rfl)) pe_int (nomark _)) (pw_and1 (pt_cmpR op_gt (pe_ix (r := rIxL K) ix_list (pv 0) pe_int (fun _ _ => rfl)) pe_int (nomark _))))) (pss_cons (ps_set (i := 2) sc_law_take.nd rfl (.inl rfl) (pe_op op_modN (pe_callTy call_intQ (by rfl) T.b_int (by decide +kernel) (pa_cons (pe_ix (r := rIxL K) ix_list (pv 0) pe_int (fun _ _ => rfl)) pa_nil)) (pv 1)))
    (pss_cons (ps_asg (pe_op op_fdivV (pe_ix (r := rIxL K) ix_list (pv 0) pe_int (fun _ _ => rfl)) (pv 1)) (pg_sub (pv 0) pe_int set_list))
    (pss_one (ps_ret (pv 2))))) pss_nil)
    (pss_cons (ps_set (i := 3) sc_law_take.nd rfl (.inl rfl) (pe_op op_modN (pe_callTy call_intQ (by rfl) T.b_int (by decide +kernel) (pa_cons (pe_op op_add (pe_op op_add (pe_op op_mul (pe_ix (r := rIxL K) ix_list (pv 0) pe_int (fun _ _ => rfl)) pe_int) (pe_op op_mul (pe_ix (r := rIxL K) ix_list (pv 0) pe_int (fun _ _ => rfl)) pe_int)) pe_int) pa_nil)) pe_int))
    (pss_cons (ps_set (i := 3) sc_law_take.nd rfl (.inl rfl) (pe_op op_modN (pe_callTy call_intQ (by rfl) T.b_int (by decide +kernel) (pa_cons (pe_op op_add (pe_op op_mul (pv 3) (pe_op op_add (pv 3) (pe_op op_mul pe_int (pe_ix (r := rIxL K) ix_list (pv 0) pe_int (fun _ _ => rfl))))) (pe_op op_mul pe_int (pe_ix (r := rIxL K) ix_list (pv 0) pe_int (fun _ _ => rfl)))) pa_nil)) pe_int))
    (pss_one (ps_ret (pe_op op_modN (pe_callTy call_intQ (by rfl) T.b_int (by decide +kernel) (pa_cons (pe_op op_fdivN (pv 3) pe_int) pa_nil)) (pv 1)))))))), ?_⟩
    have hvb : (bkL b).b = b := rfl
    rw [hvb]
    walk_at "rx"
    have w1 : Wg (bkL b) H (upd H b (.lst ([V.int A, .int f, .int M, .int c].set 3 (.int (c + 1))))) := bk_put w0
    have cm : ∀ a b : Int, CMul (a.fmod 2147483647) b := fun a b => .inl ⟨by have := fmod_in (a := a) (m := 2147483647) (by decide); omega, by have := fmod_in (a := a) (m := 2147483647) (by decide); omega⟩
    refine ite2 (fun z => ?_) (fun z => ?_)
    · walk_at "rx"
      refine ite2 (fun x => ?_) (fun x => ?_)
      · walk_at "rx"
        refine rd_I (show CDivV A m from ⟨m0, m1⟩) ?_
        walk_at "rx"
        exact q _ _ (bk_put w1) (fmod_in m0).1 (fmod_in m0).2
      · walk_at "rx"
        refine rd_I (cm _ _) ?_
        walk_at "rx"
        exact q _ _ w1 (fmod_in m0).1 (fmod_in m0).2
    · walk_at "rx"
      refine rd_I (cm _ _) ?_
      walk_at "rx"
      exact q _ _ w1 (fmod_in m0).1 (fmod_in m0).2
def spcount_goals (_K : PySem.W.Frag) : Sp := fun vs H Q _ => ∃ (n v : Nat), vs = [.int (n : Int), .int (v : Int)] ∧ v ≤ n ∧ n ≤ 12 ∧ ∀ H', Same H H' → Q (.int ((cgN n v : Nat) : Int)) H'
set_option maxHeartbeats 4000000 in
theorem okcount_goals (T : Top K mg) {f : Addr} {fd : FuncData} (D : Def K mg "count_goals" scount_goals ["blocks", "values"] f fd) : FnOk P w K mg base CX0 1 f fd ["blocks", "values"] (spcount_goals K) := by
  refine D.F.ok sccount_goals (fun vs H Q E h => ?_) (fun cdv A outer s H vs Q E hr h => ?_)
  · obtain ⟨n, v, rfl, _⟩ := h
    rfl
  · obtain ⟨n, v, rfl, vn, n12, q⟩ := h
    refine ⟨_, (pss_cons (ps_if (pt_cmpR op_eq (pe_op op_sub (pv 0) (pv 1)) pe_int (nomark _)) (pss_one (ps_ret (pe_callB (cr_sum rfl) (by rfl) T.b_sum (by decide +kernel) (pa_cons (pe_lc (own := [("through", 2)]) (g := gName 2) (tt := tYes) rfl sccount_goals.nd (pi_range1 (by rfl) T.b_range (pa_cons (pe_op op_add (pv 1) pe_int) pa_nil))
      (blkOk_by (own := [("through", 2)]) (N := ["blocks", "values", "through"]) (sc := defScope scount_goals) (by decide +kernel)) (fun _ _ _ _ _ => (pg_name (i := 2) sccount_goals.nd rfl (.inl rfl))) (fun _ _ _ _ _ => pts_nil)
      (fun _ _ _ _ _ => (pe_callBfun (r := rPerm) cr_perm (by rfl) T.g_perm (pa_cons (pv 1) (pa_cons (pv 2) pa_nil))))) pa_nil)))) pss_nil)
    (pss_one (ps_ret (pe_op op_add (pe_op op_sub (pe_callBfun (r := rPerm) cr_perm (by rfl) T.g_perm (pa_cons (pv 0) (pa_cons (pv 1) pa_nil))) (pe_callBfun (r := rFac) cr_fac (by rfl) T.g_factorial (pa_cons (pv 1) pa_nil))) pe_int)))), ?_⟩
    walk_at "rx"
    by_cases z : n = v + 1
    · rw [decide_eq_true (show V.int ((n : Int) - (v : Int)) = V.int 1 by rw [z]; congr 1; omega)]
      have hr1 : -100000 ≤ (v : Int) + 1 ∧ (v : Int) + 1 ≤ 100000 := by omega
      walk_at "rx"
      rw [show ((v : Int) + 1).toNat = v + 1 by omega]
      refine lc_map walk_rng (((List.range (v + 1)).map fun j => ((ff v j : Nat) : Int)).map V.int) ?_ ?_ (fun _ _ => trivial) ?_ ?_
      · rw [List.length_map, List.length_map, List.length_range]
      · omega
      · rintro i x Hx Hy Qc R hi Sx ⟨rfl, rfl⟩ qc
        walk_at "rx"
        refine ⟨rfl, ?_⟩
        walk_at "rx"
        refine ⟨v, i, rfl, by omega, by omega, ?_⟩
        exact qc _ _ (Same.refl _) (by rw [List.getElem?_map, List.getElem?_map, List.getElem?_range hi]; rfl)
      intro H2 D S2 nD hD
      walk_at "rx"
      refine ⟨D, _, rfl, SqL.of hD, ?_⟩
      have := q H2 S2
      unfold cgN at this
      rw [if_pos z] at this
      have e : ((List.range (v + 1)).map fun j => ((ff v j : Nat) : Int)).sum = ((((List.range (v + 1)).map (ff v)).sum : Nat) : Int) := by
        generalize List.range (v + 1) = l
        induction l with
        | nil => rfl
        | cons a l ih => rw [List.map_cons, List.map_cons, List.sum_cons, List.sum_cons, ih]; omega
      rw [e]
      exact this
    · rw [decide_eq_false (show ¬ V.int ((n : Int) - (v : Int)) = V.int 1 from fun w => z (by have := V.int.inj w; omega))]
      walk_at "rx"
      refine ⟨n, v, rfl, vn, n12, ?_⟩
      walk_at "rx"
      refine ⟨v, rfl, by omega, ?_⟩
      walk_at "rx"
      have := q H (Same.refl _)
      unfold cgN at this
      rw [if_neg z] at this
      have l := ff_le n (by omega) v (by omega) vn
      rw [show ((ff n v : Nat) : Int) - ((ff v v : Nat) : Int) + 1 = ((ff n v - ff v v + 1 : Nat) : Int) by omega]
      exact this
def sp_law_number (_K : PySem.W.Frag) : Sp := fun vs H Q _ => ∃ i : Int, vs = [.int i] ∧ Q (.bl true) H
set_option maxHeartbeats 4000000 in
theorem ok_law_number (T : Top K mg) {f : Addr} {fd : FuncData} (D : Def K mg "_law_number" s_law_number ["told"] f fd) : FnOk P w K mg base CX0 1 f fd ["told"] (sp_law_number K) := by
  refine D.F.ok sc_law_number (fun vs H Q E h => ?_) (fun cdv A outer s H vs Q E hr h => ?_)
  · obtain ⟨i, rfl, _⟩ := h
    rfl
  · obtain ⟨i, rfl, q⟩ := h
    refine ⟨_, (pss_one (ps_ret (pe_and (pe_callB (r := rIsi K) call_isi (by rfl) T.b_isinstance (by decide +kernel) (pa_cons (pv 0) (pa_cons (pe_bltn (v := .ty "int") (by rfl) T.b_int (by decide +kernel) rfl) pa_nil))) (pe_one (pe_not (pe_callB (r := rIsi K) call_isi (by rfl) T.b_isinstance (by decide +kernel) (pa_cons (pv 0) (pa_cons (pe_bltn (v := .ty "bool") (by rfl) T.b_bool (by decide +kernel) rfl) pa_nil)))))))), ?_⟩
    walk_at "rx"
    exact q
set_option maxHeartbeats 4000000 in
theorem okQ_law_number (T : Top K mg) {f : Addr} {fd : FuncData} (D : Def K mg "_law_number" s_law_number ["told"] f fd) : FnQ P w K mg base 1 f fd ["told"] (sp_law_number K) := by
  refine fn_Q D.F sc_law_number (fun vs H Q E h => ?_) (fun cdv A outer s H vs Q E p hr h => ?_)
  · obtain ⟨i, rfl, _⟩ := h
    rfl
  · obtain ⟨i, rfl, q⟩ := h
    refine ⟨_, (pss_one (ps_ret (pe_and (pe_callB (r := rIsi K) call_isi (by rfl) T.b_isinstance (by decide +kernel) (pa_cons (pv 0) (pa_cons (pe_bltn (v := .ty "int") (by rfl) T.b_int (by decide +kernel) rfl) pa_nil))) (pe_one (pe_not (pe_callB (r := rIsi K) call_isi (by rfl) T.b_isinstance (by decide +kernel) (pa_cons (pv 0) (pa_cons (pe_bltn (v := .ty "bool") (by rfl) T.b_bool (by decide +kernel) rfl) pa_nil)))))))), ?_⟩
    walk_at "rx"
    exact q
def sp_law_count (_K : PySem.W.Frag) : Sp := fun vs H Q _ => ∃ (n v : Nat), vs = [.int (n : Int), .int (v : Int)] ∧ v ≤ n ∧ n ≤ 12 ∧ ∀ H', Same H H' → Q (.int ((cgN n v : Nat) : Int)) H'
set_option maxHeartbeats 4000000 in
theorem ok_law_count (T : Top K mg) {f : Addr} {fd : FuncData} (D : Def K mg "_law_count" s_law_count ["blocks", "values"] f fd) : FnOk P w K mg base CX0 1 f fd ["blocks", "values"] (sp_law_count K) := by
  refine D.F.ok sc_law_count (fun vs H Q E h => ?_) (fun cdv A outer s H vs Q E hr h => ?_)
  · obtain ⟨n, v, rfl, _⟩ := h
    rfl
  · obtain ⟨n, v, rfl, vn, n12, q⟩ := h
    have hr1 : -100000 ≤ (v : Int) ∧ (v : Int) ≤ 100000 := by omega
    have fn : ∀ a i : Nat, i < a → ((ff a i : Nat) : Int) * ((a : Int) - (i : Int)) = ((ff a (i + 1) : Nat) : Int) := fun a i h => by
      show _ = ((ff a i * (a - i) : Nat) : Int)
      rw [Int.natCast_mul, Int.natCast_sub (by omega)]
    have fa : ∀ i : Nat, ((fac1 i : Nat) : Int) * ((i : Int) + 1) = ((fac1 (i + 1) : Nat) : Int) := fun i => by
      show _ = ((fac1 i * (i + 1) : Nat) : Int)
      rw [Int.natCast_mul]
      rfl
    refine ⟨_, (pss_cons (ps_set (i := 2) sc_law_count.nd rfl (.inl rfl) pe_int)
    (pss_cons (ps_set (i := 3) sc_law_count.nd rfl (.inl rfl) pe_int)
    (pss_cons (ps_for PassesOwn.never rfl (pi_range1 (by rfl) T.b_range (pa_cons (pv 1) pa_nil)) (pg_name (i := 4) sc_law_count.nd rfl (.inl rfl)) (pss_cons (ps_set (i := 2) sc_law_count.nd rfl (.inl rfl) (pe_op op_mul (pv 2) (pe_op op_sub (pv 0) (pv 4))))
    (pss_one (ps_set (i := 3) sc_law_count.nd rfl (.inl rfl) (pe_op op_mul (pv 3) (pe_op op_add (pv 4) pe_int))))))
    (pss_cons (ps_if (pt_cmpR op_ne (pe_op op_sub (pv 0) (pv 1)) pe_int (nomark _)) (pss_one (ps_ret (pe_op op_add (pe_op op_sub (pv 2) (pv 3)) pe_int))) pss_nil)
    (pss_cons (ps_set (i := 5) sc_law_count.nd rfl (.inl rfl) pe_int)
    (pss_cons (ps_set (i := 2) sc_law_count.nd rfl (.inl rfl) pe_int)
    (pss_cons (ps_for PassesOwn.never rfl (pi_range1 (by rfl) T.b_range (pa_cons (pv 1) pa_nil)) (pg_name (i := 4) sc_law_count.nd rfl (.inl rfl)) (pss_cons (ps_set (i := 5) sc_law_count.nd rfl (.inl rfl) (pe_op op_mul (pv 5) (pe_op op_sub (pv 1) (pv 4))))
    (pss_one (ps_set (i := 2) sc_law_count.nd rfl (.inl rfl) (pe_op op_add (pv 2) (pv 5))))))
    (pss_one (ps_ret (pv 2)))))))))), ?_⟩
    walk_at "rx"
    rw [show ((v : Int)).toNat = v by omega]
    refine fr_rng0 (fun i σ H' => ∃ (y4 y5 : Option V), σ = [some (.int (n : Int)), some (.int (v : Int)), some (.int ((ff n i : Nat) : Int)), some (.int ((fac1 i : Nat) : Int)), y4, y5] ∧ H = H') ⟨_, _, rfl, rfl⟩ ?_ ?_
    · rintro i σ H1 hi ⟨y4, y5, rfl, eH⟩
      subst eH
      have c1 : CMul ((ff n i : Nat) : Int) ((n : Int) - (i : Int)) := .inr ⟨by omega, by omega⟩
      have c2 : CMul ((fac1 i : Nat) : Int) ((i : Int) + 1) := .inr ⟨by omega, by omega⟩
      walk_at "rx"
      rw [fn n i (by omega), fa i]
      exact ⟨_, _, rfl, rfl⟩
    · rintro σ H1 ⟨y4, y5, rfl, eH⟩
      subst eH
      have fv : fac1 v = ff v v := fac_same v (by omega)
      walk_at "rx"
      by_cases z : n = v + 1
      · rw [decide_eq_true (show V.int ((n : Int) - (v : Int)) = V.int 1 by rw [z]; congr 1; omega)]
        walk_at "rx"
        rw [show ((v : Int)).toNat = v by omega]
        refine fr_rng0 (fun i σ H' => ∃ (y4 : Option V), σ = [some (.int (n : Int)), some (.int (v : Int)), some (.int ((((List.range (i + 1)).map (ff v)).sum : Nat) : Int)), some (.int ((fac1 v : Nat) : Int)), y4, some (.int ((ff v i : Nat) : Int))] ∧ H = H') ⟨_, rfl, rfl⟩ ?_ ?_
        · rintro i σ H1 hi ⟨y4, rfl, eH⟩
          subst eH
          have c1 : CMul ((ff v i : Nat) : Int) ((v : Int) - (i : Int)) := .inr ⟨by omega, by omega⟩
          walk_at "rx"
          rw [fn v i (by omega)]
          have es : ((((List.range (i + 1)).map (ff v)).sum : Nat) : Int) + ((ff v (i + 1) : Nat) : Int) = ((((List.range (i + 1 + 1)).map (ff v)).sum : Nat) : Int) := by
            rw [List.range_succ (n := i + 1), List.map_append, List.sum_append]
            simp
          rw [es]
          exact ⟨_, rfl, rfl⟩
        · rintro σ H1 ⟨y4, rfl, eH⟩
          subst eH
          have := q H (Same.refl _)
          unfold cgN at this
          rw [if_pos z] at this
          walk_at "rx"
          exact this
      · rw [decide_eq_false (show ¬ V.int ((n : Int) - (v : Int)) = V.int 1 from fun w => z (by have := V.int.inj w; omega))]
        walk_at "rx"
        have := q H (Same.refl _)
        unfold cgN at this
        rw [if_neg z] at this
        have l := ff_le n (by omega) v (by omega) vn
        rw [fv, show ((ff n v : Nat) : Int) - ((ff v v : Nat) : Int) + 1 = ((ff n v - ff v v + 1 : Nat) : Int) by omega]
        exact this
def sp_law_values (_K : PySem.W.Frag) : Sp := fun vs H Q _ => ∃ (B : Box) (m : Nat), vs = [.ref B.b, .int (m : Int)] ∧ IsBk B ∧ B.I H ∧ m ≤ 5 ∧ ∀ H' D (xs : List Int) (kd : Nat), Wg B H H' → D ∉ B.m → H' D = some (.lst (xs.map V.int)) → xs.length = m → xs.Nodup → kd ≤ 9 → (∀ x ∈ xs, 100 * (kd : Int) ≤ x ∧ x ≤ 100 * (kd : Int) + 99) → Q (.ref D) H'
set_option maxHeartbeats 4000000 in
theorem ok_law_values (T : Top K mg) {f : Addr} {fd : FuncData} (D : Def K mg "_law_values" s_law_values ["box", "many"] f fd) : FnOk P w K mg base CX0 2 f fd ["box", "many"] (sp_law_values K) := by
  obtain ⟨f_law_take, fd_law_take, D_law_take⟩ := T.d__law_take
  have G_law_take : FnOk P w K mg base CX0 1 f_law_take fd_law_take ["box", "limit"] (sp_law_take K) := ok_law_take T D_law_take
  refine D.F.ok sc_law_values (fun vs H Q E h => ?_) (fun cdv A outer s H vs Q E hr h => ?_)
  · obtain ⟨B, m, rfl, _⟩ := h
    rfl
  · obtain ⟨B, m, rfl, hB, i0, m5, q⟩ := h
    have hr1 : -100000 ≤ (m : Int) ∧ (m : Int) ≤ 100000 := by omega
    have h5 : -100000 ≤ (5 : Int) ∧ (5 : Int) ≤ 100000 := by decide
    refine ⟨_, (pss_cons (ps_set (i := 2) sc_law_values.nd rfl (.inr rfl) (pe_call G_law_take hr (by rfl) D_law_take.g D_law_take.F.kp D_law_take.b .nil pass0 (pa_cons (pv 0) (pa_cons pe_int pa_nil))))
    (pss_cons (ps_set (i := 3) sc_law_values.nd rfl (.inl rfl) (pe_lst pa_nil))
    (pss_cons (ps_for PassesOwn.never rfl (pi_range1 (by rfl) T.b_range (pa_cons (pv 1) pa_nil)) (pg_name (i := 4) sc_law_values.nd rfl (.inl rfl)) (pss_cons (ps_set (i := 5) sc_law_values.nd rfl (.inl rfl) (pe_call G_law_take hr (by rfl) D_law_take.g D_law_take.F.kp D_law_take.b .nil pass0 (pa_cons (pv 0) (pa_cons pe_int pa_nil))))
    (pss_cons (ps_for PassesOwn.never rfl (pi_range1 (by rfl) T.b_range (pa_cons pe_int pa_nil)) (pg_name (i := 6) sc_law_values.nd rfl (.inl rfl)) (pss_one (ps_if (pt_cmpR (r := rIn K false) op_in_seq (pv 5) (pv 3) (by rfl)) (pss_one (ps_set (i := 5) sc_law_values.nd rfl (.inl rfl) (pe_op op_modN (pe_callTy call_intQ (by rfl) T.b_int (by decide +kernel) (pa_cons (pe_op op_add (pv 5) pe_int) pa_nil)) pe_int))) pss_nil)))
    (pss_one (ps_expr (pe_bm PySem.F.plainAttrs_list PySem.F.slot_list_append PySem.F.type_list_append mt_append (pv 3) (pa_cons (pv 5) pa_nil)))))))
    (pss_one (ps_ret (pe_lc (own := [("value", 5)]) (g := gName 5) (tt := tYes) rfl sc_law_values.nd (pi_list (pv 3))
      (blkOk_by (own := [("value", 5)]) (N := ["box", "many", "kind", "found", "at", "value", "turn"]) (sc := defScope s_law_values) (by decide +kernel)) (fun _ _ _ _ _ => (pg_name (i := 5) sc_law_values.nd rfl (.inl rfl))) (fun _ _ _ _ _ => pts_nil)
      (fun _ _ _ _ _ => (pe_op op_add (pe_op op_mul (pv 2) pe_int) (pv 5))))))))), ?_⟩
    walk_at "rx"
    refine ⟨B, 10, rfl, hB, i0, by decide, by decide, fun H1 kind w1 hk => ?_⟩
    walk_at "rx"
    refine rd_newQ (by simp) fun H3 D S3 nD hD => ?_
    have w3 := w1.same S3
    have mD : D ∉ B.m := B.nem w1.i1 nD
    have nD0 := w1.free nD
    walk_at "rx"
    rw [show ((m : Int)).toNat = m by omega]
    refine fr_rng0 (fun i σ H' => ∃ (xs : List Int) (y4 y5 y6 : Option V), σ = [some (.ref B.b), some (.int (m : Int)), some (.int (kind : Int)), some (.ref D), y4, y5, y6] ∧ Wg B H H' ∧ H' D = some (.lst (xs.map V.int)) ∧ xs.length = i ∧ xs.Nodup ∧ ∀ x ∈ xs, 0 ≤ x ∧ x ≤ 99) ⟨[], _, _, _, rfl, w3, hD, rfl, List.nodup_nil, fun x hx => absurd hx List.not_mem_nil⟩ ?_ ?_
    · rintro i σ Ha hi ⟨xs, y4, y5, y6, rfl, wa, hDa, lx, nd, rg⟩
      walk_at "rx"
      refine ⟨B, 100, rfl, hB, wa.i1, by decide, by decide, fun Hb v0 wb hv0 => ?_⟩
      have hDb := wb.lst mD hDa
      have wab := wa.trans wb
      walk_at "rx"
      refine fr_rng0 (fun j σ H' => ∃ (k : Nat) (u : Int) (y6 : Option V), σ = [some (.ref B.b), some (.int (m : Int)), some (.int (kind : Int)), some (.ref D), some (.int (i : Int)), some (.int u), y6] ∧ H' = Hb ∧ Cand (c1h (v0 : Int)) xs k j u) ⟨0, _, _, rfl, rfl, by have := Cand.zero (c := c1h (v0 : Int)) (found := xs); rw [c1h_zero (by omega) (by omega)] at this; exact this⟩ ?_ ?_
      · rintro j σ H' hj ⟨k, u, y6, rfl, rfl, cd⟩
        walk_at "rx"
        refine rd_inLf hDb rfl (ints_flat xs) ?_
        rw [inV_ints]
        by_cases z : u ∈ xs
        · rw [decide_eq_true z]
          walk_at "rx"
          refine ⟨k + 1, _, _, rfl, rfl, ?_⟩
          have := cd.step z
          rw [c1h_next, ← cd.eq] at this
          exact this
        · rw [decide_eq_false z]
          walk_at "rx"
          exact ⟨k, u, _, rfl, rfl, cd.stay z⟩
      · rintro σ H' ⟨k, u, y6, rfl, rfl, cd⟩
        have ur : 0 ≤ u ∧ u ≤ 99 := by rw [cd.eq]; exact c1h_in (v0 : Int) k
        have nu := cd.done (by show xs.length ≤ 5; omega) (fun a b ha hb e => c1h_inj (v0 : Int) a b ha hb e)
        have l1000 : (xs.map V.int).length < 1000 := by rw [List.length_map]; omega
        walk_at "rx"
        refine ⟨xs ++ [u], _, _, _, rfl, wab.mut nD0, by rw [upd_same, List.map_append]; rfl, by rw [List.length_append, lx]; rfl, ?_, fun x hx => ?_⟩
        · rw [List.nodup_append]
          exact ⟨nd, by simp, fun a ha b hb e => nu (by rw [← List.mem_singleton.mp hb, ← e]; exact ha)⟩
        · rcases List.mem_append.mp hx with y | y
          · exact rg x y
          · rw [List.mem_singleton.mp y]; exact ur
    · rintro σ Ha ⟨xs, y4, y5, y6, rfl, wa, hDa, lx, nd, rg⟩
      walk_at "rx"
      refine lc_map (walk_list (xs := xs.map V.int)) ((xs.map fun x => (kind : Int) * 100 + x).map V.int) ?_ ?_ (fun H' S => SqL.of (S _ _ hDa)) ?_ ?_
      · rw [List.length_map, List.length_map, List.length_map]
      · rw [List.length_map]; omega
      · rintro i x Hx Hy Qc R hi Sx ⟨rfl, ex⟩ qc
        rw [List.length_map] at hi
        rw [List.getElem?_map, List.getElem?_eq_getElem hi] at ex
        cases ex
        walk_at "rx"
        refine ⟨rfl, ?_⟩
        walk_at "rx"
        exact qc _ _ (Same.refl _) (by rw [List.getElem?_map, List.getElem?_map, List.getElem?_eq_getElem hi]; rfl)
      intro H2 E S2 nE hE
      refine q H2 E _ kind (wa.same S2) (B.nem wa.i1 nE) hE (by rw [List.length_map, lx]) (nd_mapI nd fun a b e => by omega) (by omega) fun x hx => ?_
      obtain ⟨y, hy, rfl⟩ := List.mem_map.mp hx
      have := rg y hy
      omega
def sp_law_laid (_K : PySem.W.Frag) : Sp := fun vs H Q _ => ∃ (B : Box) (n : Nat) (L : Addr) (xs : List Int), vs = [.ref B.b, .int (n : Int), .ref L] ∧ IsBk B ∧ B.I H ∧ L ∉ B.m ∧ H L = some (.lst (xs.map V.int)) ∧ xs.length ≤ n ∧ 1 ≤ n ∧ n ≤ 12 ∧
  ∀ H' D es, Wg B H H' → GT H' D es → es.Perm (xs ++ List.replicate (n - xs.length) (-1)) → Q (.ref D) H'
set_option maxHeartbeats 4000000 in
theorem ok_law_laid (T : Top K mg) {f : Addr} {fd : FuncData} (D : Def K mg "_law_laid" s_law_laid ["box", "blocks", "values"] f fd) : FnOk P w K mg base CX0 2 f fd ["box", "blocks", "values"] (sp_law_laid K) := by
  obtain ⟨f_law_take, fd_law_take, D_law_take⟩ := T.d__law_take
  have G_law_take : FnOk P w K mg base CX0 1 f_law_take fd_law_take ["box", "limit"] (sp_law_take K) := ok_law_take T D_law_take
  refine D.F.ok sc_law_laid (fun vs H Q E h => ?_) (fun cdv A outer s H vs Q E hr h => ?_)
  · obtain ⟨B, n, L, xs, rfl, _⟩ := h
    rfl
  · obtain ⟨B, n, L, xs, rfl, hB, i0, mL, hL, lx, n1, n12, q⟩ := h
    have hr1 : -100000 ≤ (n : Int) ∧ (n : Int) ≤ 100000 := by omega
    refine ⟨_, (pss_cons (ps_setLc (i := 3) (own := [("k", 7)]) (g := gName 7) (tt := tYes) rfl sc_law_laid.nd rfl rfl (sw_true rfl rfl rfl (by decide +kernel)) (pi_range1 (by rfl) T.b_range (pa_cons (pv 1) pa_nil))
      (blkOk_by (own := [("k", 7)]) (N := ["box", "blocks", "values", "free", "laid", "value", "at", "k"]) (sc := defScope s_law_laid) (by decide +kernel)) (fun _ _ _ _ _ => (pg_name (i := 7) sc_law_laid.nd rfl (.inl rfl))) (fun _ _ _ _ _ => pts_nil)
      (fun _ _ _ _ _ => (pv 7)))
    (pss_cons (ps_set (i := 4) sc_law_laid.nd rfl (.inl rfl) (pe_op op_rep (pe_lst (pa_cons (pe_un un_neg pe_int) pa_nil)) (pv 1)))
    (pss_cons (ps_for PassesOwn.never rfl (pi_list (pv 2)) (pg_name (i := 5) sc_law_laid.nd rfl (.inl rfl)) (pss_cons (ps_set (i := 6) sc_law_laid.nd rfl (.inl rfl) (pe_bm PySem.F.plainAttrs_list PySem.F.slot_list_pop PySem.F.type_list_pop mt_popQ (pv 3) (pa_cons (pe_call G_law_take hr (by rfl) D_law_take.g D_law_take.F.kp D_law_take.b .nil pass0 (pa_cons (pv 0) (pa_cons (pe_callB (r := rLenQ K) call_lenQ (by rfl) T.b_len PySem.boot_len (pa_cons (pv 3) pa_nil)) pa_nil))) pa_nil)))
    (pss_one (ps_asg (pv 5) (pg_sub (pv 4) (pv 6) set_list)))))
    (pss_one (ps_ret (pe_callTy (r := rTupF K) call_tupF (by rfl) T.b_tuple (by decide +kernel) (pa_cons (pv 4) pa_nil))))))), ?_⟩
    walk_at "rx"
    rw [show ((n : Int)).toNat = n by omega]
    refine lc_acc walk_rng (fun i acc => acc = nvs (List.range i)) rfl (fun i acc hi e => by rw [e, nvs_len, List.length_range]; omega) (fun _ _ => trivial) ?_ ?_
    · rintro i x Hx Hy acc Qc R hi Sx e ⟨rfl, rfl⟩ qc rc
      walk_at "rx"
      refine ⟨rfl, ?_⟩
      walk_at "rx"
      refine qc _ _ (Same.refl _) ?_
      rw [e, List.range_succ, nvs_app]
      rfl
    intro H1 F acc S1 nF hF e
    subst e
    walk_at "rx"
    refine rd_newQ (by simp) fun H2 O S2 nO hO => ?_
    walk_at "rx"
    refine rd_rep (k := (n : Int)) hO (by omega) (by omega) (by decide) fun D nD => ?_
    obtain ⟨H3, eH, S3, hD⟩ := new_gen (.lst (List.replicate ((n : Int)).toNat [V.int (-1)]).flatten) nD
    rw [← eH]
    rw [flat_one, show ((n : Int)).toNat = n by omega, ← List.map_replicate] at hD
    have S03 := (S1.trans S2).trans S3
    have w3 := Wg.ofSame i0 S03
    have hF3 := S3 _ _ (S2 _ _ hF)
    have nF0 := nF
    have nD0 := (S1.trans S2).free nD
    have mF : F ∉ B.m := B.nem i0 nF
    have mD : D ∉ B.m := B.nem i0 nD0
    have nFD : F ≠ D := fun z => by
      have := S2 _ _ hF
      rw [z, nD] at this
      cases this
    have nLF : L ≠ F := fun z => by rw [z, nF] at hL; cases hL
    have nLD : L ≠ D := fun z => by rw [z, nD0] at hL; cases hL
    have hL3 := S03 _ _ hL
    walk_at "rx"
    refine fr_it (walk_list (xs := xs.map V.int)) (fun i σ H' => ∃ (fr : List Nat) (ls : List Int) (y5 y6 y7 : Option V), σ = [some (.ref B.b), some (.int (n : Int)), some (.ref L), some (.ref F), some (.ref D), y5, y6, y7] ∧ Wg B H H' ∧ H' L = some (.lst (xs.map V.int)) ∧ H' F = some (.lst (nvs fr)) ∧ H' D = some (.lst (ls.map V.int)) ∧
        fr.Nodup ∧ fr.length + i = n ∧ ls.length = n ∧ (∀ f ∈ fr, ls[f]? = some (-1)) ∧ ls.Perm (xs.take i ++ List.replicate (n - i) (-1)))
      ⟨List.range n, List.replicate n (-1), none, none, none, rfl, w3, hL3, hF3, hD, List.nodup_range, by rw [List.length_range]; rfl, by rw [List.length_replicate], fun f hf => by rw [List.getElem?_replicate, if_pos (List.mem_range.mp hf)], List.Perm.refl _⟩ (fun i σ H' _ p => ?_) ?_ ?_
    · obtain ⟨_, _, _, _, _, _, _, h, _⟩ := p
      exact SqL.of h
    · rintro i x σ Ha Hb hi ⟨fr, ls, y5, y6, y7, rfl, wa, hLa, hFa, hDa, nd, lf, ll, neg, pm⟩ ⟨eH2, ex⟩
      subst eH2
      have hi2 : i < xs.length := by rw [List.length_map] at hi; exact hi
      rw [List.getElem?_map, List.getElem?_eq_getElem hi2] at ex
      cases ex
      have lfr : 0 < fr.length := by omega
      have f13 : ((nvs fr).length : Int) ≤ 10 ^ 30 := by rw [nvs_len]; omega
      walk_at "rx"
      refine ⟨B, ((nvs fr).length : Nat), rfl, hB, wa.i1, by rw [nvs_len]; omega, f13, fun Hc d wc hd => ?_⟩
      rw [nvs_len] at hd
      have hFc := wc.lst mF hFa
      have hDc := wc.lst mD hDa
      have hLc := wc.lst mL hLa
      have hd2 : d < fr.length := by omega
      have ed : fr[d]? = some fr[d] := List.getElem?_eq_getElem hd2
      walk_at "rx"
      refine rd_popQ hFc (nvs_get ed) (by omega) ?_
      have hD2 : (upd Hc F (.lst ((nvs fr).eraseIdx d))) D = some (.lst (ls.map V.int)) := by rw [upd_ne nFD.symm]; exact hDc
      have hL2 : (upd Hc F (.lst ((nvs fr).eraseIdx d))) L = some (.lst (xs.map V.int)) := by rw [upd_ne nLF]; exact hLc
      have w2 : Wg B H (upd Hc F (.lst ((nvs fr).eraseIdx d))) := (wa.trans wc).mut nF0
      have hF2 : (upd Hc F (.lst ((nvs fr).eraseIdx d))) F = some (.lst (nvs (fr.eraseIdx d))) := by rw [upd_same, nvs_eraseIdx]
      generalize upd Hc F (.lst ((nvs fr).eraseIdx d)) = H5 at *
      have en := neg _ (List.getElem_mem hd2)
      have lt := (List.getElem?_eq_some_iff.mp en).1
      have ix : ixN (ls.map V.int).length ((fr[d] : Nat) : Int) = some fr[d] := ixN_of rfl (by rw [List.length_map]; exact lt)
      walk_at "rx"
      obtain ⟨p1, p2⟩ := set_perm (v := xs[i]) en
      refine ⟨fr.eraseIdx d, ls.set fr[d] xs[i], _, _, _, rfl, w2.mut nD0, by rw [upd_ne nLD]; exact hL2, by rw [upd_ne nFD]; exact hF2, by rw [upd_same, List.map_set], erase_nd nd d, ?_, by rw [List.length_set]; exact ll, fun f hf => ?_, ?_⟩
      · rw [List.length_eraseIdx_of_lt hd2]
        omega
      · have ne : fr[d] ≠ f := fun z => erase_ne nd ed (by rw [z]; exact hf)
        rw [List.getElem?_set_ne ne]
        exact neg f (erase_mem hf)
      · have k1 : n - i = (n - (i + 1)) + 1 := by omega
        rw [k1, List.replicate_succ] at pm
        have a := List.Perm.cons_inv ((p2.symm.trans pm).trans List.perm_middle)
        rw [take_next hi2, List.append_assoc]
        exact p1.trans ((a.cons _).trans List.perm_middle.symm)
    · rintro σ Ha ⟨fr, ls, y5, y6, y7, rfl, wa, hLa, hFa, hDa, nd, lf, ll, neg, pm⟩
      rw [List.length_map, List.take_length] at pm
      walk_at "rx"
      exact rd_tupF hDa fun H2 l S2 nl gl => q H2 l ls (wa.same S2) gl pm
def sp_law_arranged (_K : PySem.W.Frag) : Sp := fun vs H Q _ => ∃ (n : Nat) (l : Addr) (vals : List Int), vs = [.int (n : Int), .ref l] ∧ H l = some (.lst (vals.map V.int)) ∧ vals.length ≤ n ∧ n ≤ 5 ∧ ∀ H' p as, Same H H' → H' p = some (.lst (as.map V.ref)) → ImsG H' as (arrI n vals n) → Q (.ref p) H'
set_option maxHeartbeats 4000000 in
theorem ok_law_arranged (T : Top K mg) {f : Addr} {fd : FuncData} (D : Def K mg "_law_arranged" s_law_arranged ["blocks", "values"] f fd) : FnOk P w K mg base CX0 1 f fd ["blocks", "values"] (sp_law_arranged K) := by
  refine D.F.ok sc_law_arranged (fun vs H Q E h => ?_) (fun cdv A outer s H vs Q E hr h => ?_)
  · obtain ⟨n, l, vals, rfl, _⟩ := h
    rfl
  · obtain ⟨n, l, vals, rfl, hl, vn, n5, q⟩ := h
    have hr1 : -100000 ≤ (n : Int) ∧ (n : Int) ≤ 100000 := by omega
    refine ⟨_, (pss_cons (ps_set (i := 2) sc_law_arranged.nd rfl (.inl rfl) (pe_lst (pa_cons (pe_tupG pa_nil) pa_nil)))
    (pss_cons (ps_for PassesOwn.never rfl (pi_range1 (by rfl) T.b_range (pa_cons (pv 0) pa_nil)) (pg_name (i := 3) sc_law_arranged.nd rfl (.inl rfl)) (pss_cons (ps_set (i := 4) sc_law_arranged.nd rfl (.inl rfl) (pe_lst pa_nil))
    (pss_cons (ps_for PassesOwn.never rfl (pi_list (pv 2)) (pg_name (i := 5) sc_law_arranged.nd rfl (.inl rfl)) (C8.pss_cut (ps_if (pt_cmpR op_lt (pe_tcnt hr.units (pv 5) (pe_un un_neg pe_int)) (pe_op op_sub (pv 0) (pe_callB (r := rLenQ K) call_lenQ (by rfl) T.b_len PySem.boot_len (pa_cons (pv 1) pa_nil))) (nomark _)) (pss_one (ps_expr (pe_bm PySem.F.plainAttrs_list PySem.F.slot_list_append PySem.F.type_list_append mt_append (pv 4) (pa_cons (pe_op op_catG (pv 5) (pe_tupG (pa_cons (pe_un un_neg pe_int) pa_nil))) pa_nil)))) pss_nil)
    (pss_one (ps_for PassesOwn.never rfl (pi_list (pv 1)) (pg_name (i := 6) sc_law_arranged.nd rfl (.inl rfl)) (pss_one (ps_if (pt_cmpR (r := rIn K true) op_notIn_seq (pv 6) (pv 5) (by rfl)) (pss_one (ps_expr (pe_bm PySem.F.plainAttrs_list PySem.F.slot_list_append PySem.F.type_list_append mt_append (pv 4) (pa_cons (pe_op op_catG (pv 5) (pe_tupG (pa_cons (pv 6) pa_nil))) pa_nil)))) pss_nil))))))
    (pss_one (ps_set (i := 2) sc_law_arranged.nd rfl (.inl rfl) (pv 4))))))
    (pss_one (ps_ret (pv 2))))), ?_⟩
    walk_at "rx"
    refine rd_tupG ?_
    walk_at "rx"
    refine rd_newG [] rfl (by simp) fun H1 e S1 ne ge => ?_
    walk_at "rx"
    refine rd_newQ (by simp) fun H2 F S2 nF hF => ?_
    walk_at "rx"
    rw [show ((n : Int)).toNat = n by omega]
    refine fr_rng0 (fun i σ H' => ∃ (F : Addr) (as : List Addr) (y3 y4 y5 y6 : Option V), σ = [some (.int (n : Int)), some (.ref l), some (.ref F), y3, y4, y5, y6] ∧ Same H H' ∧ H' F = some (.lst (as.map V.ref)) ∧ ImsG H' as (arrI n vals i)) ⟨F, [e], _, _, _, _, rfl, S1.trans S2, hF, ImsG.snoc (xs := []) (gs := []) ⟨rfl, fun i x g a => by simp at a⟩ (ge.same S2)⟩ ?_ ?_
    · rintro i σ H3 hi ⟨F, as, y3, y4, y5, y6, rfl, S3, hF3, im⟩
      have bound : 6 * (arrI n vals i).length ≤ 10000 := by
        have := arr_len (n := n) (vals := vals) (by omega) i
        have h2 : 6 ^ i ≤ 6 ^ 4 := Nat.pow_le_pow_right (by decide) (by omega)
        have h3 : 6 ^ 4 = 1296 := by decide
        omega
      have six : ∀ row, (Rv.stepI n vals row).length ≤ 6 := fun row => by
        unfold Rv.stepI
        rw [List.length_append, List.length_map]
        have := List.length_filter_le (fun l => !decide (l ∈ row)) vals
        split <;> simp <;> omega
      have fl6 : ∀ L : List (List Int), (L.flatMap (Rv.stepI n vals)).length ≤ 6 * L.length := by
        intro L
        induction L with
        | nil => simp
        | cons a L ih =>
          rw [List.flatMap_cons, List.length_append, List.length_cons]
          have := six a
          omega
      walk_at "rx"
      refine rd_newQ (by decide) fun H4 G S4 nG hG => ?_
      have hF4 := S4 _ _ hF3
      have im4 := im.same S4
      have nG0 := S3.free nG
      walk_at "rx"
      refine fr_it (walk_list (xs := as.map V.ref)) (fun j σ H' => ∃ (bs : List Addr) (y5 y6 : Option V), σ = [some (.int (n : Int)), some (.ref l), some (.ref F), some (.int (i : Int)), some (.ref G), y5, y6] ∧ Same H3 H' ∧ H' G = some (.lst (bs.map V.ref)) ∧ ImsG H' bs (((arrI n vals i).take j).flatMap (Rv.stepI n vals))) ⟨[], _, _, rfl, S4, hG, ⟨rfl, fun i x g a => by simp at a⟩⟩ (fun j σ H' _ pp => ?_) ?_ ?_
      · obtain ⟨_, _, _, _, S, _⟩ := pp
        exact SqL.of (S _ _ hF3)
      · rintro j y σ H5 H6 hj ⟨bs, y5, y6, rfl, S5, hG5, im5⟩ ⟨rfl, ey⟩
        rw [List.length_map] at hj
        have ea : as[j]? = some as[j] := List.getElem?_eq_getElem hj
        rw [List.getElem?_map, ea] at ey
        cases ey
        have hj2 : j < (arrI n vals i).length := by rw [← im.1]; exact hj
        obtain ⟨row, er⟩ : ∃ row, (arrI n vals i)[j]? = some row := ⟨_, List.getElem?_eq_getElem hj2⟩
        have gr : GT H6 as[j] row := im.2 j _ _ ea er |>.same S5
        have lrow := arr_row i row (List.mem_of_getElem? er)
        have tk : (arrI n vals i).take (j + 1) = (arrI n vals i).take j ++ [row] := by
          obtain ⟨h1, h2⟩ := List.getElem?_eq_some_iff.mp er
          rw [take_next h1, h2]
        have lt : (((arrI n vals i).take j).flatMap (Rv.stepI n vals)).length ≤ 6 * (arrI n vals i).length := by
          have := fl6 ((arrI n vals i).take j)
          have h2 : ((arrI n vals i).take j).length ≤ (arrI n vals i).length := by rw [List.length_take]; omega
          omega
        have hl6 := (S3.trans S5) _ _ hl
        obtain ⟨pre, ep⟩ : ∃ pre, pre = ((arrI n vals i).take j).flatMap (Rv.stepI n vals) := ⟨_, rfl⟩
        rw [← ep] at im5 lt
        generalize as[j] = ra at *
        walk_at "rx"
        refine ⟨fun σ' H' => ∃ (bs : List Addr) (y6 : Option V), σ' = [some (.int (n : Int)), some (.ref l), some (.ref F), some (.int (i : Int)), some (.ref G), some (.ref ra), y6] ∧ Same H3 H' ∧ H' G = some (.lst (bs.map V.ref)) ∧ ImsG H' bs (pre ++ if row.count (-1) < n - vals.length then [row ++ [-1]] else []), ?_, ?_⟩
        · walk_at "rx"
          refine ⟨_, rfl, _, _, rfl, gr, ?_⟩
          walk_at "rx"
          refine ⟨_, rfl, gr, ?_⟩
          walk_at "rx"
          by_cases z : row.count (-1) < n - vals.length
          · rw [decide_eq_true (show ((row.count (-1) : Nat) : Int) < (n : Int) - (((vals.map V.int).length : Nat) : Int) by rw [List.length_map]; omega)]
            walk_at "rx"
            refine rd_tupG ?_
            walk_at "rx"
            refine rd_newG [-1] rfl (by simp) fun H7 c S7 nc gc => ?_
            refine rd_catG (gr.same S7) gc (by simp) (by rw [lrow]; simp; omega) fun H8 d S8 gd => ?_
            have S58 := S7.trans S8
            have hG8 := S58 _ _ hG5
            have lb := im5.1
            walk_at "rx"
            refine rd_appB hG8 (by rw [List.length_map, lb]; omega) ?_
            walk_at "rx"
            refine ⟨bs ++ [d], _, rfl, same_mut (S5.trans S58) nG, by rw [List.map_append]; exact upd_same, ?_⟩
            rw [if_pos z]
            exact (ImsG.mut (im5.same S58) hG8).snoc (GT.mut gd hG8)
          · rw [decide_eq_false (show ¬ ((row.count (-1) : Nat) : Int) < (n : Int) - (((vals.map V.int).length : Nat) : Int) by rw [List.length_map]; omega)]
            walk_at "rx"
            exact ⟨bs, _, rfl, S5, hG5, by rw [if_neg z, List.append_nil]; exact im5⟩
        · rintro σ' H7 ⟨bs, y6, rfl, S7, hG7, im7⟩
          have hl7 := (S3.trans S7) _ _ hl
          have gr7 : GT H7 ra row := by
            have h0 : GT H3 ra row := by
              have h1 := im.2 j _ _ ea er
              exact h1
            exact h0.same S7
          obtain ⟨p2, ep2⟩ : ∃ p2, p2 = pre ++ if row.count (-1) < n - vals.length then [row ++ [-1]] else [] := ⟨_, rfl⟩
          have lp2 : p2.length ≤ pre.length + 1 := by
            rw [ep2, List.length_append]
            split <;> simp
          rw [← ep2] at im7
          walk_at "rx"
          refine fr_it (walk_list (xs := vals.map V.int)) (fun k σ H' => ∃ (bs : List Addr) (y6 : Option V), σ = [some (.int (n : Int)), some (.ref l), some (.ref F), some (.int (i : Int)), some (.ref G), some (.ref ra), y6] ∧ Same H3 H' ∧ H' G = some (.lst (bs.map V.ref)) ∧ ImsG H' bs (p2 ++ ((vals.take k).filter fun l => !decide (l ∈ row)).map fun l => row ++ [l])) ⟨bs, _, rfl, S7, hG7, by rw [List.take_zero, List.filter_nil, List.map_nil, List.append_nil]; exact im7⟩ (fun k σ H' _ pp => ?_) ?_ ?_
          · obtain ⟨_, _, _, S, _⟩ := pp
            exact SqL.of ((S3.trans S) _ _ hl)
          · rintro k y σ H8 H9 hk ⟨bs, y6, rfl, S8, hG8, im8⟩ ⟨rfl, ey⟩
            rw [List.length_map] at hk
            rw [List.getElem?_map, List.getElem?_eq_getElem hk] at ey
            cases ey
            have gr8 : GT H9 ra row := (im.2 j _ _ ea er).same S8
            have nx : (vals.take (k + 1)).filter (fun l => !decide (l ∈ row)) = (vals.take k).filter (fun l => !decide (l ∈ row)) ++ if vals[k] ∈ row then [] else [vals[k]] := by
              rw [take_next hk, List.filter_append]
              congr 1
              by_cases z : vals[k] ∈ row
              · rw [if_pos z, List.filter_cons_of_neg (by rw [decide_eq_true z]; decide)]; rfl
              · rw [if_neg z, List.filter_cons_of_pos (by rw [decide_eq_false z]; decide)]; rfl
            walk_at "rx"
            refine rd_ninG gr8 rfl (ints_flat row) ?_
            rw [inV_ints]
            by_cases z : vals[k] ∈ row
            · rw [decide_eq_true z]
              walk_at "rx"
              exact ⟨bs, _, rfl, S8, hG8, by rw [nx, if_pos z, List.append_nil]; exact im8⟩
            · rw [decide_eq_false z]
              walk_at "rx"
              refine rd_tupG ?_
              walk_at "rx"
              refine rd_newG [vals[k]] rfl (by simp) fun Ha c Sa nc gc => ?_
              refine rd_catG (gr8.same Sa) gc (by simp) (by rw [lrow]; simp; omega) fun Hb d Sb gd => ?_
              have S9b := Sa.trans Sb
              have hGb := S9b _ _ hG8
              have lb := im8.1
              have lf := List.length_filter_le (fun l => !decide (l ∈ row)) (vals.take k)
              rw [List.length_take] at lf
              rw [List.length_append, List.length_map] at lb
              walk_at "rx"
              refine rd_appB hGb (by rw [List.length_map]; omega) ?_
              walk_at "rx"
              refine ⟨bs ++ [d], _, rfl, same_mut (S8.trans S9b) nG, by rw [List.map_append]; exact upd_same, ?_⟩
              rw [nx, if_neg z, List.map_append, ← List.append_assoc]
              exact (ImsG.mut (im8.same S9b) hGb).snoc (GT.mut gd hGb)
          · rintro σ H8 ⟨bs, y6, rfl, S8, hG8, im8⟩
            rw [List.length_map, List.take_length] at im8
            walk_at "rx"
            refine ⟨bs, _, _, rfl, S8, hG8, ?_⟩
            rw [tk, List.flatMap_append, List.flatMap_singleton]
            rw [← ep]
            unfold Rv.stepI
            rw [ep2, List.append_assoc] at im8
            exact im8
      · rintro σ H5 ⟨bs, y5, y6, rfl, S5, hG5, im5⟩
        rw [List.length_map, im.1, List.take_length] at im5
        walk_at "rx"
        exact ⟨G, bs, _, _, _, _, rfl, S3.trans S5, hG5, im5⟩
    · rintro σ H3 ⟨F, as, y3, y4, y5, y6, rfl, S3, hF3, im⟩
      walk_at "rx"
      exact q H3 F as S3 hF3 im
def sp_law_loop (_K : PySem.W.Frag) : Sp := fun vs H Q _ => ∃ (a b : Addr) (es fs : List Int) (i : Nat), vs = [.ref a, .ref b, .int (i : Int)] ∧ RP H a b es fs ∧ i < es.length ∧ ∀ H' p, Same H H' → H' p = some (.tup (nvs (lpL es fs i))) → Q (.ref p) H'
set_option maxHeartbeats 4000000 in
theorem ok_law_loop (T : Top K mg) {f : Addr} {fd : FuncData} (D : Def K mg "_law_loop" s_law_loop ["before", "after", "first"] f fd) : FnOk P w K mg base CX0 1 f fd ["before", "after", "first"] (sp_law_loop K) := by
  refine D.F.ok sc_law_loop (fun vs H Q E h => ?_) (fun cdv A outer s H vs Q E hr h => ?_)
  · obtain ⟨a, b, es, fs, i, rfl, _⟩ := h
    rfl
  · obtain ⟨a, b, es, fs, i0, rfl, r, hi, q⟩ := h
    have R := r.rn
    have e12 := r.ia.2.1
    have lf := R.len
    refine ⟨_, (pss_cons (ps_set (i := 3) sc_law_loop.nd rfl (.inl rfl) (pe_lst (pa_cons (pv 2) pa_nil)))
    (pss_cons (ps_for PassesOwn.never rfl (pi_range1 (by rfl) T.b_range (pa_cons (pe_callB (r := rLenQ K) call_lenQ (by rfl) T.b_len PySem.boot_len (pa_cons (pv 0) pa_nil)) pa_nil)) (pg_name (i := 4) sc_law_loop.nd rfl (.inl rfl)) (pss_cons (ps_if (pt_cmpR op_eq (pe_ix (r := rIxT K) ix_tup (pv 1) (pe_ix (r := rIxL K) ix_list (pv 3) (pe_un un_neg pe_int) (fun _ _ => rfl)) (fun _ _ => rfl)) (pe_un un_neg pe_int) (nomark _)) (pss_one (ps_ret (pe_tup pa_nil))) pss_nil)
    (pss_cons (ps_set (i := 5) sc_law_loop.nd rfl (.inl rfl) (pe_tix (pv 0) (pe_ix (r := rIxT K) ix_tup (pv 1) (pe_ix (r := rIxL K) ix_list (pv 3) (pe_un un_neg pe_int) (fun _ _ => rfl)) (fun _ _ => rfl))))
    (pss_cons (ps_if (pt_cmpR op_eq (pv 5) (pv 2) (nomark _)) (pss_one (ps_ret (pe_callTy (r := rTupQ K) call_tupQ (by rfl) T.b_tuple (by decide +kernel) (pa_cons (pv 3) pa_nil)))) pss_nil)
    (pss_one (ps_expr (pe_bm PySem.F.plainAttrs_list PySem.F.slot_list_append PySem.F.type_list_append mt_append (pv 3) (pa_cons (pv 5) pa_nil))))))))
    (pss_one (ps_ret (pe_tup pa_nil))))), ?_⟩
    walk_at "rx"
    refine rd_newQ (by simp) fun H1 D S1 nD hD => ?_
    have r1 := r.same S1
    have ha1 := r1.ta
    walk_at "rx"
    have hr1 : -100000 ≤ ((es.length : Nat) : Int) ∧ ((es.length : Nat) : Int) ≤ 100000 := by omega
    walk_at "rx"
    refine fr_it walk_rng (fun i σ H' => ∃ (p : List Nat) (y4 y5 : Option V), σ = [some (.ref a), some (.ref b), some (.int (i0 : Int)), some (.ref D), y4, y5] ∧ Same H H' ∧ H' D = some (.lst (nvs p)) ∧ Pth (G es fs) es.length i0 p ∧ p.length = i + 1 ∧ fol (G es fs) (es.length - i) p = Fo es fs i0)
      ⟨[i0], none, none, rfl, S1, hD, .start hi, rfl, rfl⟩ (fun _ _ _ _ _ => trivial) ?_ ?_
    · rintro i x σ H2 H3 hi2 ⟨p, y4, y5, rfl, S2, hD2, P, lp, ef⟩ ⟨rfl, rfl⟩
      have hi2 : i < es.length := by omega
      have r2 := r.same S2
      have hb2 := r2.tb
      have ll := P.lt _ (last_mem P.ne)
      have la := nvs_last P.ne
      have bi : atI (fs.map V.int) ((p.getLastD 0 : Nat) : Int) = some (.int (fs.getD (p.getLastD 0) 0)) := atI_ints (by omega) (by omega)
      walk_at "rx"
      by_cases n : fs.getD (p.getLastD 0) 0 = -1
      · rw [decide_eq_true (show V.int (fs.getD (p.getLastD 0) 0) = V.int (-1) from by rw [n])]
        walk_at "rx"
        refine rd_newQ (by decide) fun H4 t S4 nT hT => ?_
        have e : fol (G es fs) (es.length - i) p = p := fol_stop (by unfold G; rw [if_pos n]; exact last_mem P.ne) _
        rw [e] at ef
        refine q H4 t (S2.trans S4) ?_
        rw [hT]
        unfold lpL
        rw [← ef, if_neg (fun w => w.2 n)]
        rfl
      · rw [decide_eq_false (show ¬ V.int (fs.getD (p.getLastD 0) 0) = V.int (-1) from fun w => n (V.int.inj w))]
        walk_at "rx"
        have me := R.to ll n
        have mem : fs.getD (p.getLastD 0) 0 ∈ es := by rw [← me.2]; exact mem_at me.1
        have ge : es.idxOf (fs.getD (p.getLastD 0) 0) = G es fs (p.getLastD 0) := by unfold G; rw [if_neg n]
        refine ⟨_, rfl, _, _, rfl, r2.ga, ?_⟩
        walk_at "rx"
        refine ⟨_, rfl, r2.ga, mem, ?_⟩
        rw [ge]
        walk_at "rx"
        by_cases z : G es fs (p.getLastD 0) = i0
        · rw [decide_eq_true (show V.int ((G es fs (p.getLastD 0) : Nat) : Int) = V.int (i0 : Int) from by rw [z])]
          walk_at "rx"
          refine rd_newL fun H4 t S4 nT hT => ?_
          have e : fol (G es fs) (es.length - i) p = p := fol_stop (by rw [z]; exact List.mem_of_getElem? P.hd) _
          rw [e] at ef
          refine q H4 t (S2.trans S4) ?_
          rw [hT]
          unfold lpL
          rw [← ef, if_pos ⟨z, n⟩]
        · rw [decide_eq_false (show ¬ V.int ((G es fs (p.getLastD 0) : Nat) : Int) = V.int (i0 : Int) from fun w => z (by have := V.int.inj w; omega))]
          have la2 : (nvs p).length < 1000 := by rw [nvs_len]; omega
          have nin := lp_new R P n z
          walk_at "rx"
          refine ⟨p ++ [G es fs (p.getLastD 0)], _, _, rfl, same_mut S2 nD, by rw [nvs_app]; exact upd_same, P.next nin me.1, by rw [List.length_append, List.length_singleton, lp], ?_⟩
          rw [show es.length - i = (es.length - (i + 1)) + 1 by omega, fol_step nin] at ef
          exact ef
    · rintro σ H2 ⟨p, y4, y5, rfl, S2, hD2, P, lp, ef⟩
      have := P.len
      omega
def sp_law_loops (_K : PySem.W.Frag) : Sp := fun vs H Q _ => ∃ (a b : Addr) (es fs : List Int), vs = [.ref a, .ref b] ∧ RP H a b es fs ∧ ∀ H' l bs, Same H H' → H' l = some (.lst (bs.map V.ref)) → NRows H' bs (rngs es fs) → Q (.ref l) H'
set_option maxHeartbeats 4000000 in
theorem ok_law_loops (T : Top K mg) {f : Addr} {fd : FuncData} (D : Def K mg "_law_loops" s_law_loops ["before", "after"] f fd) : FnOk P w K mg base CX0 2 f fd ["before", "after"] (sp_law_loops K) := by
  obtain ⟨f_law_loop, fd_law_loop, D_law_loop⟩ := T.d__law_loop
  have G_law_loop : FnOk P w K mg base CX0 1 f_law_loop fd_law_loop ["before", "after", "first"] (sp_law_loop K) := ok_law_loop T D_law_loop
  refine D.F.ok sc_law_loops (fun vs H Q E h => ?_) (fun cdv A outer s H vs Q E hr h => ?_)
  · obtain ⟨a, b, es, fs, rfl, _⟩ := h
    rfl
  · obtain ⟨a, b, es, fs, rfl, r, q⟩ := h
    have R := r.rn
    have e12 := r.ia.2.1
    have lf := R.len
    refine ⟨_, (pss_cons (ps_set (i := 2) sc_law_loops.nd rfl (.inl rfl) (pe_lst pa_nil))
    (pss_cons (ps_for PassesOwn.never rfl (pi_range1 (by rfl) T.b_range (pa_cons (pe_callB (r := rLenQ K) call_lenQ (by rfl) T.b_len PySem.boot_len (pa_cons (pv 0) pa_nil)) pa_nil)) (pg_name (i := 3) sc_law_loops.nd rfl (.inl rfl)) (pss_cons (ps_set (i := 4) sc_law_loops.nd rfl (.inl rfl) (pe_call G_law_loop hr (by rfl) D_law_loop.g D_law_loop.F.kp D_law_loop.b .nil pass0 (pa_cons (pv 0) (pa_cons (pv 1) (pa_cons (pv 3) pa_nil)))))
    (pss_one (ps_if (PW.pt (pw_and (pt_cmpR op_gt (pe_callB (r := rLenQ K) call_lenQ (by rfl) T.b_len PySem.boot_len (pa_cons (pv 4) pa_nil)) pe_int (nomark _)) (pw_and1 (pt_cmpR op_eq (pe_ix (r := rIxT K) ix_tup (pv 4) pe_int (fun _ _ => rfl)) (pe_callB (r := rMinT) (cr_minT rfl (by exact hr.units)) (by rfl) T.b_min (by decide +kernel) (pa_cons (pv 4) pa_nil)) (nomark _))))) (pss_one (ps_expr (pe_bm PySem.F.plainAttrs_list PySem.F.slot_list_append PySem.F.type_list_append mt_append (pv 2) (pa_cons (pv 4) pa_nil)))) pss_nil))))
    (pss_one (ps_ret (pv 2))))), ?_⟩
    walk_at "rx"
    refine rd_newQ (by decide) fun H1 D S1 nD hD => ?_
    have r1 := r.same S1
    have ha1 := r1.ta
    have hr1 : -100000 ≤ ((es.length : Nat) : Int) ∧ ((es.length : Nat) : Int) ≤ 100000 := by omega
    walk_at "rx"
    refine fr_it walk_rng (fun i σ H' => ∃ (bs : List Addr) (y3 y4 : Option V), σ = [some (.ref a), some (.ref b), some (.ref D), y3, y4] ∧ Same H H' ∧ H' D = some (.lst (bs.map V.ref)) ∧ NRows H' bs ((tops es fs i).map (Fo es fs)))
      ⟨[], none, none, rfl, S1, hD, TupsAt.nil⟩ (fun _ _ _ _ _ => trivial) ?_ ?_
    · rintro i x σ H2 H3 hi2 ⟨bs, y3, y4, rfl, S2, hD2, tb⟩ ⟨rfl, rfl⟩
      have hi2 : i < es.length := by omega
      have r2 := r.same S2
      have nx : tops es fs (i + 1) = tops es fs i ++ if IsR (G es fs) (Fo es fs i) then [i] else [] := by
        unfold tops
        rw [List.range_succ, List.filter_append]
        congr 1
        by_cases z : IsR (G es fs) (Fo es fs i)
        · rw [if_pos z, List.filter_cons_of_pos (by rw [decide_eq_true z])]; rfl
        · rw [if_neg z, List.filter_cons_of_neg (by rw [decide_eq_false z]; decide)]; rfl
      have lb := NRows.len tb
      have l2 := List.length_filter_le (fun b => decide (IsR (G es fs) (Fo es fs b))) (List.range i)
      rw [List.length_range] at l2
      rw [List.length_map] at lb
      unfold tops at lb
      obtain ⟨P, _⟩ := fo_p R hi2
      walk_at "rx"
      refine ⟨a, b, es, fs, i, rfl, r2, hi2, fun H4 p S4 hp => ?_⟩
      have hD4 := S4 _ _ hD2
      have tb4 := TupsAt.same S4 tb
      have no : ¬ IsR (G es fs) (Fo es fs i) → NRows H4 bs ((tops es fs (i + 1)).map (Fo es fs)) := fun k => by rw [nx, if_neg k, List.append_nil]; exact tb4
      walk_at "rx"
      by_cases c : G es fs ((Fo es fs i).getLastD 0) = i ∧ fs.getD ((Fo es fs i).getLastD 0) 0 ≠ -1
      · have el : lpL es fs i = Fo es fs i := by unfold lpL; rw [if_pos c]
        rw [el] at hp ⊢
        have hd := P.headD
        by_cases z1 : 1 < (Fo es fs i).length
        · rw [decide_eq_true (show (1 : Int) < (((nvs (Fo es fs i)).length : Nat) : Int) by rw [nvs_len]; omega)]
          have h0 : atI (nvs (Fo es fs i)) (0 : Int) = some (V.int (i : Int)) := nvs_atI (i := 0) P.hd
          walk_at "rx"
          refine rd_minT (ns := niz (Fo es fs i)) hp (by rw [niz_len]; omega) fun m hm hle => ?_
          obtain ⟨x, rfl, hx⟩ := niz_of hm
          walk_at "rx"
          by_cases z3 : i = x
          · rw [decide_eq_true (show V.int (i : Int) = V.int (x : Int) from by rw [z3])]
            have lb2 : (bs.map V.ref).length < 1000 := by rw [List.length_map]; omega
            walk_at "rx"
            refine ⟨bs ++ [p], _, _, rfl, same_mut (S2.trans S4) nD, by rw [List.map_append]; exact upd_same, ?_⟩
            rw [nx, if_pos ⟨z1, by rw [hd]; exact c.1, fun y hy => by
              rw [hd, z3]
              have := hle _ (mem_niz.mpr hy)
              omega⟩, List.map_append]
            exact (NRows.upd tb4 hD4).snoc ((upd_ne (fun e => by rw [e, hD4] at hp; cases hp)).trans hp)
          · rw [decide_eq_false (show ¬ V.int (i : Int) = V.int (x : Int) from fun w => z3 (by have := V.int.inj w; omega))]
            walk_at "rx"
            refine ⟨bs, _, _, rfl, S2.trans S4, hD4, no fun k => z3 ?_⟩
            have k1 := k.2.2 x hx
            rw [hd] at k1
            have k2 := hle _ (mem_niz.mpr (List.mem_of_getElem? P.hd))
            omega
        · rw [decide_eq_false (show ¬ (1 : Int) < (((nvs (Fo es fs i)).length : Nat) : Int) by rw [nvs_len]; omega)]
          walk_at "rx"
          exact ⟨bs, _, _, rfl, S2.trans S4, hD4, no fun k => z1 k.1⟩
      · have el : lpL es fs i = [] := by unfold lpL; rw [if_neg c]
        rw [el] at hp ⊢
        rw [decide_eq_false (show ¬ (1 : Int) < (((nvs ([] : List Nat)).length : Nat) : Int) by decide)]
        walk_at "rx"
        refine ⟨bs, _, _, rfl, S2.trans S4, hD4, no fun k => c ?_⟩
        have e := rg_end R hi2 k
        exact ⟨e.1, e.2.1⟩
    · rintro σ H2 ⟨bs, y3, y4, rfl, S2, hD2, tb⟩
      walk_at "rx"
      refine q _ _ bs S2 hD2 ?_
      rw [show (((es.length : Nat) : Int)).toNat = es.length by omega] at tb
      exact tb
def sp_law_one_kind (_K : PySem.W.Frag) : Sp := fun vs H Q _ => ∃ (a : Addr) (es : List Int), vs = [.ref a] ∧ TG H a es ∧ Img es ∧ ∀ H', Same H H' → Q (.bl (decide (mono es))) H'
set_option maxHeartbeats 4000000 in
theorem ok_law_one_kind (T : Top K mg) {f : Addr} {fd : FuncData} (D : Def K mg "_law_one_kind" s_law_one_kind ["image"] f fd) : FnOk P w K mg base CX0 1 f fd ["image"] (sp_law_one_kind K) := by
  refine D.F.ok sc_law_one_kind (fun vs H Q E h => ?_) (fun cdv A outer s H vs Q E hr h => ?_)
  · obtain ⟨a, es, rfl, _⟩ := h
    rfl
  · obtain ⟨a, es, rfl, hT, I, q⟩ := h
    obtain ⟨I1, I2, I3⟩ := I
    refine ⟨_, (pss_cons (ps_set (i := 1) sc_law_one_kind.nd rfl (.inr rfl) (pe_lc (own := [("entry", 2)]) (g := gName 2) (tt := _) rfl sc_law_one_kind.nd (pi_tup (pv 0))
      (blkOk_by (own := [("entry", 2)]) (N := ["image", "signs", "entry", "sign"]) (sc := defScope s_law_one_kind) (by decide +kernel)) (fun _ _ _ _ _ => (pg_name (i := 2) sc_law_one_kind.nd rfl (.inl rfl))) (fun _ _ _ _ _ => pts_one (pt_cmpR op_ne (pv 2) (pe_un un_neg pe_int) (nomark _)))
      (fun _ _ _ _ _ => (pe_op op_fdivN (pv 2) pe_int))))
    (pss_one (ps_ret (pe_cmpR (op_eqD hr.units) (pe_lc (own := [("sign", 3)]) (g := gName 3) (tt := _) rfl sc_law_one_kind.nd (pi_list (pv 1))
      (blkOk_by (own := [("sign", 3)]) (N := ["image", "signs", "entry", "sign"]) (sc := defScope s_law_one_kind) (by decide +kernel)) (fun _ _ _ _ _ => (pg_name (i := 3) sc_law_one_kind.nd rfl (.inl rfl))) (fun _ _ _ _ _ => pts_one (pt_cmpR op_ne (pv 3) (pe_ix (r := rIxL K) ix_list (pv 1) pe_int (fun _ _ => rfl)) (nomark _)))
      (fun _ _ _ _ _ => (pv 3))) (pe_lst pa_nil) (nomark _))))), ?_⟩
    walk_at "rx"
    refine lc_acc (walk_tup (xs := es.map V.int)) (fun i acc => acc = (kinds (es.take i)).map V.int) rfl (fun i acc hi e => by
      have := kinds_len (es.take i)
      rw [List.length_take] at this
      rw [e, List.length_map]
      omega) (fun H' S => (hT.same S).sq) ?_ ?_
    · rintro i x Hx Hy acc Qc R2 hi Sx e ⟨rfl, ex⟩ qc rc
      have hi2 : i < es.length := by rw [List.length_map] at hi; exact hi
      rw [List.getElem?_map, List.getElem?_eq_getElem hi2] at ex
      cases ex
      have nx := kinds_next hi2
      have k := I3 _ (List.getElem_mem hi2)
      walk_at "rx"
      refine ⟨rfl, ?_⟩
      walk_at "rx"
      by_cases z : es[i] = -1
      · rw [decide_eq_true (show V.int es[i] = V.int (-1) from by rw [z])]
        walk_at "rx"
        refine rc _ (Same.refl _) ?_
        rw [nx, if_pos z, List.append_nil]
        exact e
      · rw [decide_eq_false (show ¬ V.int es[i] = V.int (-1) from fun w => z (V.int.inj w))]
        walk_at "rx"
        refine qc _ _ (Same.refl _) ?_
        rw [nx, if_neg z, List.map_append, e]
        rfl
    intro H1 D acc S1 nD hD e
    rw [e, List.length_map, List.take_length] at hD
    have kl := kinds_len es
    walk_at "rx"
    refine lc_acc (walk_list (xs := (kinds es).map V.int)) (fun i acc => acc = (odd (kinds es) i).map V.int) rfl (fun i acc hi e => by
      have := odd_len (kinds es) i
      rw [e, List.length_map]
      omega) (fun H' S => SqL.of (S _ _ hD)) ?_ ?_
    · rintro i x Hx Hy acc Qc R2 hi Sx e ⟨rfl, ex⟩ qc rc
      have hi2 : i < (kinds es).length := by rw [List.length_map] at hi; exact hi
      have h0 : atI ((kinds es).map V.int) (0 : Int) = some (.int ((kinds es).getD 0 0)) := atI_ints (k := 0) (by decide) (by show (0 : Int) < (((kinds es).length : Nat) : Int); omega)
      have hDx := Sx _ _ hD
      rw [List.getElem?_map, List.getElem?_eq_getElem hi2] at ex
      cases ex
      have nx := odd_next hi2
      walk_at "rx"
      refine ⟨rfl, ?_⟩
      walk_at "rx"
      by_cases z : (kinds es)[i] = (kinds es).getD 0 0
      · rw [decide_eq_true (show V.int (kinds es)[i] = V.int ((kinds es).getD 0 0) from by rw [z])]
        walk_at "rx"
        refine rc _ (Same.refl _) ?_
        rw [nx, if_pos z, List.append_nil]
        exact e
      · rw [decide_eq_false (show ¬ V.int (kinds es)[i] = V.int ((kinds es).getD 0 0) from fun w => z (V.int.inj w))]
        walk_at "rx"
        refine qc _ _ (Same.refl _) ?_
        rw [nx, if_neg z, List.map_append, e]
        rfl
    intro H2 D2 acc S2 nD2 hD2 e
    rw [e, List.length_map] at hD2
    have ol := odd_len (kinds es) (kinds es).length
    walk_at "rx"
    refine rd_newQ (by decide) fun H3 L S3 nL hL => ?_
    have hD3 := S3 _ _ hD2
    refine rd_eqL hD3 (ys := []) hL ?_
    rw [mono_odd I3]
    exact q _ ((S1.trans S2).trans S3)
def sp_law_sign (_K : PySem.W.Frag) : Sp := fun vs H Q _ => ∃ (e : Int), vs = [.int e] ∧ -1 ≤ e ∧ e ≤ 999 ∧ Q (.str (sgS e)) H
set_option maxHeartbeats 4000000 in
theorem ok_law_sign (T : Top K mg) {f : Addr} {fd : FuncData} (D : Def K mg "_law_sign" s_law_sign ["entry"] f fd) : FnOk P w K mg base CX0 1 f fd ["entry"] (sp_law_sign K) := by
  refine D.F.ok sc_law_sign (fun vs H Q E h => ?_) (fun cdv A outer s H vs Q E hr h => ?_)
  · obtain ⟨e, rfl, _⟩ := h
    rfl
  · obtain ⟨e, rfl, e0, e1, q⟩ := h
    unfold sgS at q
    refine ⟨_, (pss_cons (ps_if (pt_cmpR op_eq (pv 0) (pe_un un_neg pe_int) (nomark _)) (pss_one (ps_ret pe_str)) pss_nil)
    (pss_one (ps_ret (pe_callTy call_strQ (by rfl) T.b_str (by decide +kernel) (pa_cons (pe_op op_fdivN (pv 0) pe_int) pa_nil))))), ?_⟩
    walk_at "rx"
    refine ite2 (fun z => ?_) (fun z => ?_)
    · walk_at "rx"
      rw [if_pos (V.int.inj (of_decide_eq_true z))] at q
      exact q
    · walk_at "rx"
      have ne : e ≠ -1 := fun k => z (by rw [k]; rfl)
      obtain ⟨k0, k1⟩ := kind_small (e := e) (by omega) e1
      refine rd_strQ k0 k1 ?_
      rw [if_neg ne] at q
      exact q
def sp_law_view (_K : PySem.W.Frag) : Sp := fun vs H Q _ => ∃ (a : Addr) (es : List Int), vs = [.ref a] ∧ (TG H a es ∨ H a = some (.lst (es.map V.int))) ∧ Rg es ∧ es.length ≤ 12 ∧ ∀ H', Same H H' → Q (.str (txt (codes es))) H'
set_option maxHeartbeats 4000000 in
theorem ok_law_view (T : Top K mg) {f : Addr} {fd : FuncData} (D : Def K mg "_law_view" s_law_view ["image"] f fd) : FnOk P w K mg base CX0 2 f fd ["image"] (sp_law_view K) := by
  obtain ⟨f_law_sign, fd_law_sign, D_law_sign⟩ := T.d__law_sign
  have G_law_sign : FnOk P w K mg base CX0 1 f_law_sign fd_law_sign ["entry"] (sp_law_sign K) := ok_law_sign T D_law_sign
  refine D.F.ok sc_law_view (fun vs H Q E h => ?_) (fun cdv A outer s H vs Q E hr h => ?_)
  · obtain ⟨a, es, rfl, _⟩ := h
    rfl
  · obtain ⟨a, es, rfl, hT, I3, I2, q⟩ := h
    refine ⟨_, (pss_one (ps_ret (pe_join pe_str (pe_lc (own := [("entry", 1)]) (g := gName 1) (tt := tYes) rfl sc_law_view.nd (pi_or (pi_tup (pv 0)) (pi_list (pv 0)))
      (blkOk_by (own := [("entry", 1)]) (N := ["image", "entry"]) (sc := defScope s_law_view) (by decide +kernel)) (fun _ _ _ _ _ => (pg_name (i := 1) sc_law_view.nd rfl (.inl rfl))) (fun _ _ _ _ _ => pts_nil)
      (fun _ _ _ _ _ => (pe_call G_law_sign hr (by rfl) D_law_sign.g D_law_sign.F.kp D_law_sign.b .nil pass0 (pa_cons (pv 1) pa_nil))))))), ?_⟩
    walk_at "rx"
    rcases hT with hT | hT
    · refine .inl ?_
      walk_at "rx"
      refine lc_map (walk_tup (xs := es.map V.int)) ((codes es).map fun c => V.str (one c)) ?_ ?_ (fun H' S => (hT.same S).sq) ?_ ?_
      · simp [codes]
      · rw [List.length_map]
        omega
      · rintro i x H2 H3 Qc R hi S ⟨rfl, ex⟩ qc
        have hi2 : i < es.length := by rw [List.length_map] at hi; exact hi
        rw [List.getElem?_map, List.getElem?_eq_getElem hi2] at ex
        cases ex
        have k := I3 _ (List.getElem_mem hi2)
        walk_at "rx"
        refine ⟨rfl, ?_⟩
        walk_at "rx"
        refine ⟨_, rfl, k.1, k.2, qc _ _ (Same.refl _) ?_⟩
        unfold codes
        rw [List.map_map, List.getElem?_map, List.getElem?_eq_getElem hi2, sgS_one k]
        rfl
      · intro H2 D S nD hD
        refine ⟨_, D, (codes es).map one, rfl, rfl, .inl (SqL.of (by rw [List.map_map]; exact hD)), ?_, ?_⟩
        · rw [ones_sum, List.length_map, codes_len]
          show es.length + es.length * 0 ≤ _
          omega
        · rw [join_sg]
          exact q _ S
    · refine .inr ?_
      walk_at "rx"
      refine lc_map (walk_list (xs := es.map V.int)) ((codes es).map fun c => V.str (one c)) ?_ ?_ (fun H' S => SqL.of (S _ _ hT)) ?_ ?_
      · simp [codes]
      · rw [List.length_map]
        omega
      · rintro i x H2 H3 Qc R hi S ⟨rfl, ex⟩ qc
        have hi2 : i < es.length := by rw [List.length_map] at hi; exact hi
        rw [List.getElem?_map, List.getElem?_eq_getElem hi2] at ex
        cases ex
        have k := I3 _ (List.getElem_mem hi2)
        walk_at "rx"
        refine ⟨rfl, ?_⟩
        walk_at "rx"
        refine ⟨_, rfl, k.1, k.2, qc _ _ (Same.refl _) ?_⟩
        unfold codes
        rw [List.map_map, List.getElem?_map, List.getElem?_eq_getElem hi2, sgS_one k]
        rfl
      · intro H2 D S nD hD
        refine ⟨_, D, (codes es).map one, rfl, rfl, .inl (SqL.of (by rw [List.map_map]; exact hD)), ?_, ?_⟩
        · rw [ones_sum, List.length_map, codes_len]
          show es.length + es.length * 0 ≤ _
          omega
        · rw [join_sg]
          exact q _ S
def sp_law_reason (_K : PySem.W.Frag) : Sp := fun vs H Q _ => ∃ (a b : Addr) (es fs : List Int), vs = [.ref a, .ref b] ∧ RP H a b es fs ∧ ∀ H' d (k : Nat) p, Same H H' → H' d = some (.lst [.int (k : Int), .ref p]) → DueAt H' k p es fs → Q (.ref d) H'
set_option maxHeartbeats 4000000 in
theorem ok_law_reason (T : Top K mg) {f : Addr} {fd : FuncData} (D : Def K mg "_law_reason" s_law_reason ["before", "after"] f fd) : FnOk P w K mg base CX0 3 f fd ["before", "after"] (sp_law_reason K) := by
  obtain ⟨f_law_loops, fd_law_loops, D_law_loops⟩ := T.d__law_loops
  have G_law_loops : FnOk P w K mg base CX0 2 f_law_loops fd_law_loops ["before", "after"] (sp_law_loops K) := ok_law_loops T D_law_loops
  obtain ⟨f_law_one_kind, fd_law_one_kind, D_law_one_kind⟩ := T.d__law_one_kind
  have G_law_one_kind : FnOk P w K mg base CX0 1 f_law_one_kind fd_law_one_kind ["image"] (sp_law_one_kind K) := ok_law_one_kind T D_law_one_kind
  obtain ⟨f_law_view, fd_law_view, D_law_view⟩ := T.d__law_view
  have G_law_view : FnOk P w K mg base CX0 2 f_law_view fd_law_view ["image"] (sp_law_view K) := ok_law_view T D_law_view
  refine D.F.ok sc_law_reason (fun vs H Q E h => ?_) (fun cdv A outer s H vs Q E hr h => ?_)
  · obtain ⟨a, b, es, fs, rfl, _⟩ := h
    rfl
  · obtain ⟨a, b, es, fs, rfl, r, q⟩ := h
    have R := r.rn
    have e12 := r.ia.2.1
    refine ⟨_, (pss_cons (ps_if (pt_cmpR (op_eqD hr.units) (pv 0) (pv 1) (nomark _)) (pss_one (ps_ret (pe_lst (pa_cons pe_int (pa_cons (pe_tup pa_nil) pa_nil))))) pss_nil)
    (pss_cons (ps_if (pt_cmpR op_eq (pe_tcnt hr.units (pv 0) (pe_un un_neg pe_int)) pe_int (nomark _)) (pss_one (ps_ret (pe_lst (pa_cons pe_int (pa_cons (pe_tup (pa_cons pe_str pa_nil)) pa_nil))))) pss_nil)
    (pss_cons (ps_if (pt_cmpR op_eq (pe_call G_law_view hr (by rfl) D_law_view.g D_law_view.F.kp D_law_view.b .nil pass0 (pa_cons (pv 0) pa_nil)) (pe_call G_law_view hr (by rfl) D_law_view.g D_law_view.F.kp D_law_view.b .nil pass0 (pa_cons (pv 1) pa_nil)) (nomark _)) (pss_one (ps_ret (pe_lst (pa_cons pe_int (pa_cons (pe_tup (pa_cons pe_str pa_nil)) pa_nil))))) pss_nil)
    (pss_cons (ps_set (i := 2) sc_law_reason.nd rfl (.inl rfl) (pe_call G_law_loops hr (by rfl) D_law_loops.g D_law_loops.F.kp D_law_loops.b .nil pass0 (pa_cons (pv 0) (pa_cons (pv 1) pa_nil))))
    (pss_cons (ps_if (PW.pt (pw_or (pt_cmpR op_gt (pe_tcnt hr.units (pv 0) (pe_un un_neg pe_int)) pe_int (nomark _)) (pw_or1 (pt_cmpR (op_eqD hr.units) (pv 2) (pe_lst pa_nil) (nomark _))))) (pss_one (ps_ret (pe_lst (pa_cons pe_int (pa_cons (pe_tup pa_nil) pa_nil))))) pss_nil)
    (pss_cons (ps_if (pt_val (pe_call G_law_one_kind (hr.mono (by decide)) (by rfl) D_law_one_kind.g D_law_one_kind.F.kp D_law_one_kind.b .nil pass0 (pa_cons (pv 0) pa_nil))) (pss_one (ps_ret (pe_lst (pa_cons pe_int (pa_cons (pe_tup (pa_cons pe_str (pa_cons (pe_callTy (r := rTupQ K) call_tupQ (by rfl) T.b_tuple (by decide +kernel) (pa_cons (pv 2) pa_nil)) pa_nil))) pa_nil))))) pss_nil)
    (pss_one (ps_ret (pe_lst (pa_cons pe_int (pa_cons (pe_callTy (r := rTupQ K) call_tupQ (by rfl) T.b_tuple (by decide +kernel) (pa_cons (pv 2) pa_nil)) pa_nil))))))))))), ?_⟩
    walk_at "rx"
    refine rd_eqI r.ta r.tb ?_
    by_cases e0 : es = fs
    · rw [decide_eq_true e0]
      walk_at "rx"
      refine rd_newQ (by simp) fun H1 p S1 nP hP => ?_
      walk_at "rx"
      refine rd_newQ (by simp) fun H2 d S2 nD hD => ?_
      exact q H2 d 0 p (S1.trans S2) hD (.inl ⟨rfl, if_pos e0⟩)
    · rw [decide_eq_false e0]
      walk_at "rx"
      refine ⟨_, rfl, _, _, rfl, r.ga, ?_⟩
      walk_at "rx"
      refine ⟨_, rfl, r.ga, ?_⟩
      walk_at "rx"
      by_cases z : es.count (-1) = 0
      · rw [decide_eq_true (show V.int ((es.count (-1) : Nat) : Int) = V.int 0 by rw [z]; rfl)]
        have n1 : -1 ∉ es := List.count_eq_zero.mp z
        walk_at "rx"
        refine rd_newQ (by simp) fun H1 p S1 nP hP => ?_
        walk_at "rx"
        refine rd_newQ (by simp) fun H2 d S2 nD hD => ?_
        exact q H2 d 1 p (S1.trans S2) hD (.inr (.inl ⟨rfl, 1, by unfold vdt; rw [if_neg e0, if_pos n1], by decide, by decide, .inl ⟨rfl, S2 _ _ hP⟩⟩))
      · rw [decide_eq_false (show ¬ V.int ((es.count (-1) : Nat) : Int) = V.int 0 from fun w => z (by have := V.int.inj w; omega))]
        have e1 : (-1 : Int) ∈ es := Classical.byContradiction fun k => z (List.count_eq_zero.mpr k)
        walk_at "rx"
        refine ⟨a, es, rfl, .inl r.ta, r.ia.2.2, e12, fun H2 S2 => ?_⟩
        have r2 := r.same S2
        walk_at "rx"
        refine ⟨b, fs, rfl, .inl r2.tb, r.ib.2.2, r.ib.2.1, fun H3 S3 => ?_⟩
        have r3 := r2.same S3
        have S13 := S2.trans S3
        walk_at "rx"
        by_cases e2 : codes es = codes fs
        · rw [decide_eq_true (show V.str (txt (codes es)) = V.str (txt (codes fs)) by rw [e2])]
          walk_at "rx"
          refine rd_newQ (by simp) fun H4 p S4 nP hP => ?_
          walk_at "rx"
          refine rd_newQ (by simp) fun H5 d S5 nD hD => ?_
          exact q H5 d 1 p ((S13.trans S4).trans S5) hD (.inr (.inl ⟨rfl, 2, by unfold vdt; rw [if_neg e0, if_neg (fun w => w e1), if_pos e2], by decide, by decide, .inr (.inl ⟨rfl, S5 _ _ hP⟩)⟩))
        · rw [decide_eq_false (show ¬ V.str (txt (codes es)) = V.str (txt (codes fs)) from fun w => e2 (txt_inj (V.str.inj w)))]
          walk_at "rx"
          refine ⟨a, b, es, fs, rfl, r3, fun H4 l bs S4 hl tb => ?_⟩
          have r4 := r3.same S4
          have S14 := S13.trans S4
          walk_at "rx"
          refine ⟨_, rfl, _, _, rfl, r4.ga, ?_⟩
          walk_at "rx"
          refine ⟨_, rfl, r4.ga, ?_⟩
          walk_at "rx"
          have none : ¬ crowd es fs → ∀ H' d p, Same H H' → H' d = some (.lst [.int ((0 : Nat) : Int), .ref p]) → Q (.ref d) H' := fun k H' d p S hd => q H' d 0 p S hd (.inl ⟨rfl, by unfold vdt; rw [if_neg e0, if_neg (fun w => w e1), if_neg e2, if_pos k]⟩)
          by_cases y : 1 < es.count (-1)
          · rw [decide_eq_true (show (1 : Int) < ((es.count (-1) : Nat) : Int) by omega)]
            walk_at "rx"
            refine rd_newQ (by simp) fun H5 p S5 nP hP => ?_
            walk_at "rx"
            refine rd_newQ (by simp) fun H6 d S6 nD hD => ?_
            exact none (fun k => by have := k.1; omega) H6 d p ((S14.trans S5).trans S6) hD
          · rw [decide_eq_false (show ¬ (1 : Int) < ((es.count (-1) : Nat) : Int) by omega)]
            walk_at "rx"
            refine rd_newQ (by simp) fun H5 p5 S5 nP5 hP5 => ?_
            have hl5 := S5 _ _ hl
            have tb5 := TupsAt.same S5 tb
            refine rd_eqRN hl5 tb5 hP5 ?_
            by_cases x : rngs es fs = []
            · rw [decide_eq_true x]
              walk_at "rx"
              refine rd_newQ (by simp) fun H6 p S6 nP hP => ?_
              walk_at "rx"
              refine rd_newQ (by simp) fun H7 d S7 nD hD => ?_
              exact none (fun k => k.2 x) H7 d p (((S14.trans S5).trans S6).trans S7) hD
            · rw [decide_eq_false x]
              have c : crowd es fs := ⟨by omega, x⟩
              have r5 := r4.same S5
              walk_at "rx"
              refine ⟨a, es, rfl, r5.ta, r5.ia, fun H6 S6 => ?_⟩
              have r6 := r5.same S6
              have hl6 := S6 _ _ hl5
              have tb6 := TupsAt.same S6 tb5
              have S16 := (S14.trans S5).trans S6
              walk_at "rx"
              by_cases m : mono es
              · rw [decide_eq_true m]
                walk_at "rx"
                refine rd_newL fun H7 t S7 nT hT => ?_
                walk_at "rx"
                refine rd_newQ (by simp) fun H8 p S8 nP hP => ?_
                walk_at "rx"
                refine rd_newQ (by simp) fun H9 d S9 nD hD => ?_
                have S79 := S8.trans S9
                exact q H9 d 1 p ((S16.trans S7).trans S79) hD (.inr (.inl ⟨rfl, 3, by unfold vdt; rw [if_neg e0, if_neg (fun w => w e1), if_neg e2, if_neg (fun w => w c), if_pos m], by decide, by decide, .inr (.inr ⟨rfl, t, bs, S9 _ _ hP, S79 _ _ hT, TupsAt.same (S7.trans S79) tb6⟩)⟩))
              · rw [decide_eq_false m]
                walk_at "rx"
                refine rd_newL fun H7 t S7 nT hT => ?_
                walk_at "rx"
                refine rd_newQ (by simp) fun H8 d S8 nD hD => ?_
                exact q H8 d 2 t ((S16.trans S7).trans S8) hD (.inr (.inr ⟨rfl, by unfold vdt; rw [if_neg e0, if_neg (fun w => w e1), if_neg e2, if_neg (fun w => w c), if_neg m], bs, S8 _ _ hT, TupsAt.same (S7.trans S8) tb6⟩))
def sp_law_moved_on (_K : PySem.W.Frag) : Sp := fun vs H Q _ => ∃ (a : Addr) (g : List Int), vs = [.ref a] ∧ TG H a g ∧ g.length ≤ 5 ∧ ∀ H' p as, Same H H' → H p = none → H' p = some (.lst (as.map V.ref)) → TupsAt H' as ((mvsI g).map fun h => h.map V.int) → Q (.ref p) H'
set_option maxHeartbeats 4000000 in
theorem ok_law_moved_on (T : Top K mg) {f : Addr} {fd : FuncData} (D : Def K mg "_law_moved_on" s_law_moved_on ["image"] f fd) : FnOk P w K mg base CX0 1 f fd ["image"] (sp_law_moved_on K) := by
  refine D.F.ok sc_law_moved_on (fun vs H Q E h => ?_) (fun cdv A outer s H vs Q E hr h => ?_)
  · obtain ⟨a, g, rfl, _⟩ := h
    rfl
  · obtain ⟨a, g, rfl, ha, l5, q⟩ := h
    have hr1 : -100000 ≤ ((g.length : Nat) : Int) ∧ ((g.length : Nat) : Int) ≤ 100000 := by omega
    have le : ∀ t k, t < g.length → k ≤ g.length → (mvsP g t ++ rowI g t k).length < 1000 := fun t k ht hk => by
      have h1 := mvsP_len g t
      have h2 := row_len g t k
      have : t * g.length ≤ 5 * 5 := Nat.mul_le_mul (by omega) (by omega)
      rw [List.length_append]
      omega
    refine ⟨_, (pss_cons (ps_set (i := 1) sc_law_moved_on.nd rfl (.inl rfl) (pe_lst pa_nil))
    (pss_cons (ps_for PassesOwn.never rfl (pi_range1 (by rfl) T.b_range (pa_cons (pe_callB (r := rLenQ K) call_lenQ (by rfl) T.b_len PySem.boot_len (pa_cons (pv 0) pa_nil)) pa_nil)) (pg_name (i := 2) sc_law_moved_on.nd rfl (.inl rfl)) (pss_one (ps_for PassesOwn.never rfl (pi_range1 (by rfl) T.b_range (pa_cons (pe_callB (r := rLenQ K) call_lenQ (by rfl) T.b_len PySem.boot_len (pa_cons (pv 0) pa_nil)) pa_nil)) (pg_name (i := 3) sc_law_moved_on.nd rfl (.inl rfl)) (pss_one (ps_if (PW.pt (pw_and (pt_cmpR op_eq (pe_ix (r := rIxT K) ix_tup (pv 0) (pv 2) (fun _ _ => rfl)) (pe_un un_neg pe_int) (nomark _)) (pw_and1 (pt_cmpR op_ne (pe_ix (r := rIxT K) ix_tup (pv 0) (pv 3) (fun _ _ => rfl)) (pe_un un_neg pe_int) (nomark _))))) (pss_cons (ps_set (i := 4) sc_law_moved_on.nd rfl (.inl rfl) (pe_callTy (r := rLstQ K) call_lstQ (by rfl) T.b_list (by decide +kernel) (pa_cons (pv 0) pa_nil)))
    (pss_cons (ps_asg (pe_ix (r := rIxL K) ix_list (pv 4) (pv 3) (fun _ _ => rfl)) (pg_sub (pv 4) (pv 2) set_list))
    (pss_cons (ps_asg (pe_un un_neg pe_int) (pg_sub (pv 4) (pv 3) set_list))
    (pss_one (ps_expr (pe_bm PySem.F.plainAttrs_list PySem.F.slot_list_append PySem.F.type_list_append mt_append (pv 1) (pa_cons (pe_callTy (r := rTupQ K) call_tupQ (by rfl) T.b_tuple (by decide +kernel) (pa_cons (pv 4) pa_nil)) pa_nil))))))) pss_nil)))))
    (pss_one (ps_ret (pv 1))))), ?_⟩
    walk_at "rx"
    refine rd_newQ (by decide) fun H1 F S1 nF hF => ?_
    have ha1 := ha.same S1
    walk_at "rx"
    rw [show (((g.length : Nat) : Int)).toNat = g.length by omega]
    refine fr_rng0 (fun t σ H' => ∃ (as : List Addr) (y2 y3 y4 : Option V), σ = [some (.ref a), some (.ref F), y2, y3, y4] ∧ Same H H' ∧ H' F = some (.lst (as.map V.ref)) ∧ TupsAt H' as ((mvsP g t).map fun h => h.map V.int)) ⟨[], _, _, _, rfl, S1, hF, TupsAt.nil⟩ ?_ ?_
    · rintro t σ H2 ht ⟨as, y2, y3, y4, rfl, S2, hF2, ts⟩
      have ha2 := ha.same S2
      walk_at "rx"
      rw [show (((g.length : Nat) : Int)).toNat = g.length by omega]
      refine fr_rng0 (fun s σ H' => ∃ (as : List Addr) (y3 y4 : Option V), σ = [some (.ref a), some (.ref F), some (.int (t : Int)), y3, y4] ∧ Same H H' ∧ H' F = some (.lst (as.map V.ref)) ∧ TupsAt H' as ((mvsP g t ++ rowI g t s).map fun h => h.map V.int)) ⟨as, _, _, rfl, S2, hF2, by unfold rowI; rw [List.range_zero, List.flatMap_nil, List.append_nil]; exact ts⟩ ?_ ?_
      · rintro s σ H3 hs ⟨as, y3, y4, rfl, S3, hF3, ts⟩
        have ha3 := ha.same S3
        have at1 : atI (g.map V.int) (t : Int) = some (.int (g.getD t 0)) := atI_ints (by omega) (by omega)
        have at2 : atI (g.map V.int) (s : Int) = some (.int (g.getD s 0)) := atI_ints (by omega) (by omega)
        have nx : rowI g t (s + 1) = rowI g t s ++ cellI g t s := by
          unfold rowI
          rw [List.range_succ, List.flatMap_append, List.flatMap_singleton]
        have no : ¬ (g.getD t 0 = -1 ∧ g.getD s 0 ≠ -1) → rowI g t (s + 1) = rowI g t s := fun k => by rw [nx]; unfold cellI; rw [if_neg k, List.append_nil]
        walk_at "rx"
        by_cases z : g.getD t 0 = -1
        · rw [decide_eq_true (show V.int (g.getD t 0) = V.int (-1) by rw [z])]
          walk_at "rx"
          by_cases y : g.getD s 0 = -1
          · rw [decide_eq_true (show V.int (g.getD s 0) = V.int (-1) by rw [y])]
            walk_at "rx"
            exact ⟨as, _, _, rfl, S3, hF3, by rw [no (fun k => k.2 y)]; exact ts⟩
          · rw [decide_eq_false (show ¬ V.int (g.getD s 0) = V.int (-1) from fun w => y (V.int.inj w))]
            walk_at "rx"
            refine rd_newL fun H4 L S4 nL hL => ?_
            have hF4 := S4 _ _ hF3
            have LF : L ≠ F := fun k => by rw [k, hF3] at nL; cases nL
            have ix1 : ixN (g.map V.int).length (t : Int) = some t := ixN_of (by omega) (by rw [List.length_map]; omega)
            have ix2 : ixN ((g.map V.int).set t (V.int (g.getD s 0))).length (s : Int) = some s := ixN_of (by omega) (by rw [List.length_set, List.length_map]; omega)
            walk_at "rx"
            refine rd_newL fun H5 p S5 np hp => ?_
            rw [set_mv] at hp
            have S35 := (same_mut (same_mut S4 nL) nL).trans S5
            have hF5 := S35 _ _ hF3
            have lm := le t s ht (by omega)
            have las : as.length = (mvsP g t ++ rowI g t s).length := by have := ts.1; rw [List.length_map] at this; exact this
            have lF : (as.map V.ref).length < 1000 := by rw [List.length_map]; omega
            walk_at "rx"
            have pF : p ≠ F := fun k => by rw [k, hF5] at hp; cases hp
            refine ⟨as ++ [p], _, _, rfl, same_mut (S3.trans S35) nF, by rw [List.map_append]; exact upd_same, ?_⟩
            rw [nx]
            unfold cellI
            rw [if_pos ⟨z, y⟩, ← List.append_assoc, List.map_append]
            exact (TupsAt.mut hF5 (TupsAt.same S35 ts)).app ((upd_ne pF).trans hp)
        · rw [decide_eq_false (show ¬ V.int (g.getD t 0) = V.int (-1) from fun w => z (V.int.inj w))]
          walk_at "rx"
          exact ⟨as, _, _, rfl, S3, hF3, by rw [no (fun k => z k.1)]; exact ts⟩
      · rintro σ H3 ⟨as, y3, y4, rfl, S3, hF3, ts⟩
        walk_at "rx"
        refine ⟨as, _, _, _, rfl, S3, hF3, ?_⟩
        have : mvsP g (t + 1) = mvsP g t ++ rowI g t g.length := by
          unfold mvsP
          rw [List.range_succ, List.flatMap_append, List.flatMap_singleton]
        rw [this]
        exact ts
    · rintro σ H2 ⟨as, y2, y3, y4, rfl, S2, hF2, ts⟩
      walk_at "rx"
      exact q H2 F as S2 nF hF2 ts
def sp_law_reached (_K : PySem.W.Frag) : Sp := fun vs H Q _ => ∃ (a : Addr) (g : List Int), vs = [.ref a] ∧ TG H a g ∧ Rg g ∧ g.length ≤ 5 ∧ ∀ H', Same H H' → Q (.int ((rchI g : Nat) : Int)) H'
set_option maxHeartbeats 4000000 in
theorem ok_law_reached (T : Top K mg) {f : Addr} {fd : FuncData} (D : Def K mg "_law_reached" s_law_reached ["image"] f fd) : FnOk P w K mg base CX0 3 f fd ["image"] (sp_law_reached K) := by
  obtain ⟨f_law_moved_on, fd_law_moved_on, D_law_moved_on⟩ := T.d__law_moved_on
  have G_law_moved_on : FnOk P w K mg base CX0 1 f_law_moved_on fd_law_moved_on ["image"] (sp_law_moved_on K) := ok_law_moved_on T D_law_moved_on
  obtain ⟨f_law_view, fd_law_view, D_law_view⟩ := T.d__law_view
  have G_law_view : FnOk P w K mg base CX0 2 f_law_view fd_law_view ["image"] (sp_law_view K) := ok_law_view T D_law_view
  refine D.F.ok sc_law_reached (fun vs H Q E h => ?_) (fun cdv A outer s H vs Q E hr h => ?_)
  · obtain ⟨a, g, rfl, _⟩ := h
    rfl
  · obtain ⟨a, g, rfl, ha, Rg1, l5, q⟩ := h
    refine ⟨_, (pss_cons (ps_set (i := 1) sc_law_reached.nd rfl (.inl rfl) (pe_dnewH rfl rfl))
    (pss_cons (ps_dputH rfl rfl hr.units (pv 1) (pv 0) pe_bl rfl)
    (pss_cons (ps_set (i := 2) sc_law_reached.nd rfl (.inl rfl) (pe_lst (pa_cons (pe_lst (pa_cons (pv 0) (pa_cons (pe_lst (pa_cons (pe_call G_law_view hr (by rfl) D_law_view.g D_law_view.F.kp D_law_view.b .nil pass0 (pa_cons (pv 0) pa_nil)) pa_nil)) pa_nil))) pa_nil)))
    (pss_cons (ps_for PassesOwn.never rfl (pi_range1 (by rfl) T.b_range (pa_cons pe_int pa_nil)) (pg_name (i := 3) sc_law_reached.nd rfl (.inl rfl)) (pss_cons (ps_if (pt_cmpR op_ge (pv 3) (pe_callB (r := rLenQ K) call_lenQ (by rfl) T.b_len PySem.boot_len (pa_cons (pv 2) pa_nil)) (nomark _)) (pss_one (ps_ret (pe_callB (r := rLenG P w) call_lenG (by rfl) T.b_len PySem.boot_len (pa_cons (pv 1) pa_nil)))) pss_nil)
    (pss_one (ps_for PassesOwn.never rfl (pi_list (pe_call G_law_moved_on (hr.mono (by decide)) (by rfl) D_law_moved_on.g D_law_moved_on.F.kp D_law_moved_on.b .nil pass0 (pa_cons (pe_ix (r := rIxL K) ix_list (pe_ix (r := rIxL K) ix_list (pv 2) (pv 3) (fun _ _ => rfl)) pe_int (fun _ _ => rfl)) pa_nil))) (pg_name (i := 4) sc_law_reached.nd rfl (.inl rfl)) (pss_cons (ps_set (i := 5) sc_law_reached.nd rfl (.inl rfl) (pe_call G_law_view hr (by rfl) D_law_view.g D_law_view.F.kp D_law_view.b .nil pass0 (pa_cons (pv 4) pa_nil)))
    (pss_one (ps_if (pt_cmpR (r := rIn K true) op_notIn_seq (pv 5) (pe_ix (r := rIxL K) ix_list (pe_ix (r := rIxL K) ix_list (pv 2) (pv 3) (fun _ _ => rfl)) pe_int (fun _ _ => rfl)) (by rfl)) (pss_cons (ps_dputH rfl rfl hr.units (pv 1) (pv 4) pe_bl rfl)
    (pss_one (ps_expr (pe_bm PySem.F.plainAttrs_list PySem.F.slot_list_append PySem.F.type_list_append mt_append (pv 2) (pa_cons (pe_lst (pa_cons (pv 4) (pa_cons (pe_op op_cat (pe_ix (r := rIxL K) ix_list (pe_ix (r := rIxL K) ix_list (pv 2) (pv 3) (fun _ _ => rfl)) pe_int (fun _ _ => rfl)) (pe_lst (pa_cons (pv 5) pa_nil))) pa_nil))) pa_nil))))) pss_nil)))))))
    (pss_one (ps_ret (pe_callB (r := rLenG P w) call_lenG (by rfl) T.b_len PySem.boot_len (pa_cons (pv 1) pa_nil)))))))), ?_⟩
    walk_at "rx"
    refine rd_dnewH fun H1 M S1 nM hM => ?_
    walk_at "rx"
    refine rd_dputH ?_
    walk_at "rx"
    have m0 : MetI P w H1 M [] := ⟨[], Dg.nil hM, rfl⟩
    refine m0.put (ha.same S1) (by decide) fun H2 e2 _ m1 => ?_
    obtain ⟨o2, e2⟩ := e2
    have S2 : Same H H2 := by rw [e2]; exact same_mut S1 nM
    have m1 : MetI P w H2 M [g] := m1
    walk_at "rx"
    refine ⟨a, g, rfl, .inl (ha.same S2), Rg1, by omega, fun H3 S3 => ?_⟩
    walk_at "rx"
    refine rd_newQ (by simp) fun H4 y S4 ny hy => ?_
    walk_at "rx"
    refine rd_newQ (by simp) fun H5 u S5 nu hu => ?_
    walk_at "rx"
    refine rd_newQ (by simp) fun H6 W S6 nW hW => ?_
    have S36 := (S4.trans S5).trans S6
    have S26 := S3.trans S36
    have hy6 := (S5.trans S6) _ _ hy
    have hu6 := S6 _ _ hu
    have W0 : WaysAt H6 W [u] [(g, [codes g])] := WaysAt.snoc (ws := []) (ways := []) ⟨rfl, fun i u hU a => by simp at a⟩ (fun k => by rw [k, nW] at hu; cases hu) (fun k => by have h1 := S5 _ _ hy; rw [k, nW] at h1; cases h1) hu6 (ha.same (S2.trans S26)) hy6
    have nW0 : H W = none := (S2.trans (S3.trans (S4.trans S5))).free nW
    have nM0 : H M = none := nM
    have h200 : -100000 ≤ (200 : Int) ∧ (200 : Int) ≤ 100000 := by decide
    walk_at "rx"
    refine fr_rng0 (fun i σ H' => ∃ (met : List (List Int)) (ways : List WI) (ws : List Addr) (y3 y4 y5 : Option V), σ = [some (.ref a), some (.ref M), some (.ref W), y3, y4, y5] ∧ Same H H' ∧ MetI P w H' M met ∧ H' W = some (.lst (ws.map V.ref)) ∧ WaysAt H' W ws ways ∧ runI (200 - i) i (met, ways) = rchI g ∧ met.length ≤ 1 + 25 * i ∧ ways.length ≤ 1 + 25 * i ∧ ∀ x ∈ ways, x.1.length ≤ 5 ∧ Rg x.1 ∧ x.2.length ≤ i + 1) ⟨[g], [(g, [codes g])], [u], _, _, _, rfl, S2.trans S26, m1.same S26, hW, W0, rfl, by simp, by simp, fun x hx => by rw [List.mem_singleton.mp hx]; exact ⟨l5, Rg1, by simp⟩⟩ ?_ ?_
    · rintro i σ Ha hi ⟨met, ways, ws, y3, y4, y5, rfl, Sa, ma, hWa, Wa, run, lm, lw, wok⟩
      have hi : i < 200 := hi
      have lws := Wa.len
      have rs : runI (200 - i) i (met, ways) = match ways[i]? with | none => met.length | some x => runI (200 - (i + 1)) (i + 1) (oneI (met, ways) x) := by
        rw [show 200 - i = (200 - (i + 1)) + 1 by omega]
        rfl
      walk_at "rx"
      cases e : ways[i]? with
      | none =>
        have le : ways.length ≤ i := List.getElem?_eq_none_iff.mp e
        rw [e] at rs
        rw [decide_eq_true (show (((ws.map V.ref).length : Nat) : Int) ≤ (i : Int) by rw [List.length_map, lws]; omega)]
        walk_at "rx"
        obtain ⟨xs, gx, ex⟩ := ma.ex
        have lx := key_len (P := P) (w := w) (H := Ha) (d := M) ex
        refine rd_lenG2 gx (by omega) ?_
        have e2 : xs.length = rchI g := by rw [lx, ← run, rs]
        rw [e2]
        exact q Ha Sa
      | some hU =>
        have li := (List.getElem?_eq_some_iff.mp e).1
        rw [e] at rs
        obtain ⟨h5, hR, hV⟩ := wok hU (List.mem_of_getElem? e)
        obtain ⟨h, U⟩ := hU
        dsimp only at h5 hR hV
        obtain ⟨ux, eu⟩ : ∃ ux, ws[i]? = some ux := ⟨_, List.getElem?_eq_getElem (by omega)⟩
        obtain ⟨x, y, n1, n2, hux, hx, hyy⟩ := Wa.at_ i ux (h, U) eu e
        have au : atI (ws.map V.ref) (i : Int) = some (.ref ux) := atI_nat (by rw [List.getElem?_map, eu]; rfl)
        have mlen := mvsP_len h h.length
        have m25 : h.length * h.length ≤ 5 * 5 := Nat.mul_le_mul h5 h5
        have min := mvs_in hR
        rw [decide_eq_false (show ¬ (((ws.map V.ref).length : Nat) : Int) ≤ (i : Int) by rw [List.length_map, lws]; omega)]
        walk_at "rx"
        refine ⟨x, h, rfl, hx, h5, fun Hb p as Sb np hp ts => ?_⟩
        have pW : p ≠ W := fun k => by rw [k, hWa] at np; cases np
        have las : as.length = (mvsI h).length := by have := ts.1; rw [List.length_map] at this; exact this
        have lmv : (mvsI h).length ≤ 25 := by unfold mvsI; omega
        walk_at "rx"
        refine fr_it (walk_list (xs := as.map V.ref)) (fun j σ H' => ∃ (st : List (List Int) × List WI) (ws2 : List Addr) (y4 y5 : Option V), σ = [some (.ref a), some (.ref M), some (.ref W), some (.int (i : Int)), y4, y5] ∧ st = ((mvsI h).take j).foldl (addI U) (met, ways) ∧ Same H H' ∧ MetI P w H' M st.1 ∧ H' W = some (.lst (ws2.map V.ref)) ∧ WaysAt H' W ws2 st.2 ∧ H' p = some (.lst (as.map V.ref)) ∧ TupsAt H' as ((mvsI h).map fun h => h.map V.int) ∧ st.2[i]? = some (h, U) ∧ st.1.length ≤ 1 + 25 * i + j ∧ st.2.length ≤ 1 + 25 * i + j ∧ ∀ x ∈ st.2, x.1.length ≤ 5 ∧ Rg x.1 ∧ x.2.length ≤ i + 2) ⟨(met, ways), ws, _, _, rfl, rfl, Sa.trans Sb, ma.same Sb, Sb _ _ hWa, Wa.same Sb, hp, ts, e, by omega, by omega, fun x hx => by obtain ⟨a1, a2, a3⟩ := wok x hx; exact ⟨a1, a2, by omega⟩⟩ (fun j σ H' _ pp => ?_) ?_ ?_
        · obtain ⟨_, _, _, _, _, _, _, _, _, _, hpp, _⟩ := pp
          exact SqL.of hpp
        · rintro j v σ Hc Hd hj ⟨st, ws2, y4, y5, rfl, est, Sc, mc, hWc, Wc, hpc, tc, ec, l1, l2, ok⟩ ⟨rfl, ev⟩
          rw [List.length_map] at hj
          have ea : as[j]? = some as[j] := List.getElem?_eq_getElem hj
          rw [List.getElem?_map, ea] at ev
          cases ev
          obtain ⟨b, eb⟩ : ∃ b, (mvsI h)[j]? = some b := ⟨_, List.getElem?_eq_getElem (by omega)⟩
          have mb := List.mem_of_getElem? eb
          obtain ⟨lb, Rb⟩ := min b mb
          have hb : Hd as[j] = some (.tup (b.map V.int)) := by
            obtain ⟨p2, k1, k2⟩ := tc.2 j _ (by rw [List.getElem?_map, eb]; rfl)
            rw [ea] at k1
            cases k1
            exact k2
          have tk : ((mvsI h).take (j + 1)).foldl (addI U) (met, ways) = addI U st b := by
            obtain ⟨h1, h2⟩ := List.getElem?_eq_some_iff.mp eb
            rw [take_next h1, h2, List.foldl_append, ← est]
            rfl
          obtain ⟨uy, eu2⟩ : ∃ uy, ws2[i]? = some uy := ⟨_, List.getElem?_eq_getElem (by rw [Wc.len]; exact (List.getElem?_eq_some_iff.mp ec).1)⟩
          obtain ⟨x2, y2, k1, k2, hu2, hx2, hy2⟩ := Wc.at_ i uy (h, U) eu2 ec
          have au2 : atI (ws2.map V.ref) (i : Int) = some (.ref uy) := atI_nat (by rw [List.getElem?_map, eu2]; rfl)
          generalize as[j] = aj at *
          walk_at "rx"
          refine ⟨aj, b, rfl, .inl (.of hb), Rb, by omega, fun He Se => ?_⟩
          have hWe := Se _ _ hWc
          have hue := Se _ _ hu2
          have hye := Se _ _ hy2
          have hbe := Se _ _ hb
          walk_at "rx"
          refine rd_ninL2 hye rfl (txts_flat _) ?_
          rw [inV_txts]
          by_cases z : codes b ∈ U
          · rw [decide_eq_true z]
            have es : addI U st b = st := by unfold addI; rw [if_pos z]
            walk_at "rx"
            exact ⟨st, ws2, _, _, rfl, by rw [tk, es], Sc.trans Se, mc.same Se, hWe, Wc.same Se, Se _ _ hpc, TupsAt.same Se tc, ec, by omega, by omega, ok⟩
          · rw [decide_eq_false z]
            have es : addI U st b = (if b ∈ st.1 then st.1 else st.1 ++ [b], st.2 ++ [(b, U ++ [codes b])]) := by unfold addI; rw [if_neg z]
            walk_at "rx"
            refine rd_dputH ?_
            walk_at "rx"
            refine (mc.same Se).put (.of hbe) (by omega) fun Hf ef hM0 mf => ?_
            obtain ⟨o, ef⟩ := ef
            obtain ⟨xs0, hM0⟩ := hM0
            have neM : ∀ {c : Addr} {u : HO}, He c = some u → (∀ xs, u ≠ DGO P w M xs) → Hf c = some u := fun {c u} hc nu => by
              rw [ef]
              refine (upd_ne fun k => ?_).trans hc
              rw [k, hM0] at hc
              exact nu xs0 (Option.some.inj hc).symm
            have Sf : Same H Hf := by rw [ef]; exact same_mut (Sc.trans Se) nM0
            have hWf := neM hWe (fun xs k => by cases k)
            have huf := neM hue (fun xs k => by cases k)
            have hyf := neM hye (fun xs k => by cases k)
            have hbf := neM hbe (fun xs k => by cases k)
            have hpf := neM (Se _ _ hpc) (fun xs k => by cases k)
            have Wf : WaysAt Hf W ws2 st.2 := by rw [ef]; exact (Wc.same Se).mutD hM0
            have tf : TupsAt Hf as ((mvsI h).map fun h => h.map V.int) := ⟨(TupsAt.same Se tc).1, fun k vs ek => by
              obtain ⟨p3, a1, a2⟩ := (TupsAt.same Se tc).2 k vs ek
              exact ⟨p3, a1, neM a2 (fun xs k => by cases k)⟩⟩
            clear ef neM
            walk_at "rx"
            refine rd_newQ (by simp) fun Hg z1 Sg nz hz => ?_
            have hyg := Sg _ _ hyf
            refine rd_catLN hyg hz (by rw [List.length_map]; simp; omega) ?_
            refine rd_newL fun Hh z2 Sh nz2 hz2 => ?_
            walk_at "rx"
            refine rd_newQ (by simp) fun Hk z3 Sk nz3 hz3 => ?_
            have Sfk := (Sg.trans Sh).trans Sk
            have hWk := Sfk _ _ hWf
            have hz2k := Sk _ _ hz2
            have lws2 := Wf.len
            walk_at "rx"
            refine rd_appB hWk (by rw [List.length_map]; omega) ?_
            walk_at "rx"
            have hWg := (Sg.trans Sh) _ _ hWf
            have z3W : z3 ≠ W := fun k => by rw [k] at nz3; rw [hWg] at nz3; cases nz3
            have z2W : z2 ≠ W := fun k => by rw [k] at nz2; rw [Sg _ _ hWf] at nz2; cases nz2
            have Wk := (Wf.same Sfk).snoc z3W z2W hz3 (.of (Sfk _ _ hbf)) (show Hk z2 = some (.lst ((U ++ [codes b]).map fun c => V.str (txt c))) by rw [hz2k, List.map_append]; rfl)
            refine ⟨_, ws2 ++ [z3], _, _, rfl, tk.symm, same_mut (Sf.trans Sfk) nW0, ?_, by rw [List.map_append]; exact upd_same, ?_, (upd_ne pW).trans (Sfk _ _ hpf), TupsAt.mut hWk (TupsAt.same Sfk tf), ?_, ?_, ?_, ?_⟩
            · rw [es]
              exact (mf.same Sfk).mutL hWk
            · rw [es]
              exact Wk.mut hWk
            · rw [es]
              exact (List.getElem?_append_left (List.getElem?_eq_some_iff.mp ec).1).trans ec
            · rw [es]
              dsimp only
              split
              · omega
              · rw [List.length_append, List.length_singleton]; omega
            · rw [es]
              dsimp only
              rw [List.length_append, List.length_singleton]
              omega
            · rw [es]
              intro x hx
              rcases List.mem_append.mp hx with k | k
              · exact ok x k
              · rw [List.mem_singleton.mp k]
                exact ⟨by rw [lb]; exact h5, Rb, by rw [List.length_append, List.length_singleton]; omega⟩
        · rintro σ Hc ⟨st, ws2, y4, y5, rfl, est, Sc, mc, hWc, Wc, hpc, tc, ec, l1, l2, ok⟩
          rw [List.length_map, las, List.take_length] at est
          rw [List.length_map, las] at l1 l2
          walk_at "rx"
          refine ⟨st.1, st.2, ws2, _, _, _, rfl, Sc, mc, hWc, Wc, ?_, by omega, by omega, ok⟩
          rw [← run, rs, est]
          rfl
    · rintro σ Ha ⟨met, ways, ws, y3, y4, y5, rfl, Sa, ma, hWa, Wa, run, lm, lw, wok⟩
      obtain ⟨xs, gx, ex⟩ := ma.ex
      have lx := key_len (P := P) (w := w) (H := Ha) (d := M) ex
      walk_at "rx"
      refine rd_lenG2 gx (by omega) ?_
      have e2 : xs.length = rchI g := by rw [lx, ← run]; rfl
      rw [e2]
      exact q Ha Sa
def sp_law_same_reason (_K : PySem.W.Frag) : Sp := fun vs H Q _ => ∃ (tv : V) (d p : Addr) (k : Nat) (es fs : List Int), vs = [tv, .ref d] ∧ H d = some (.lst [.int (k : Int), .ref p]) ∧ ((k = 0 ∧ tv = .non) ∨ (k ≠ 0 ∧ ∃ p2 kk, tv = .ref p2 ∧ RsnAt H p2 kk es fs ∧ RsnAt H p kk es fs)) ∧ Ren es fs ∧ es.length ≤ 12 ∧ ∀ H', Same H H' → Q (.bl true) H'
set_option maxHeartbeats 4000000 in
theorem ok_law_same_reason (T : Top K mg) {f : Addr} {fd : FuncData} (D : Def K mg "_law_same_reason" s_law_same_reason ["told", "due"] f fd) : FnOk P w K mg base CX0 2 f fd ["told", "due"] (sp_law_same_reason K) := by
  obtain ⟨f_law_number, fd_law_number, D_law_number⟩ := T.d__law_number
  have G_law_number : FnOk P w K mg base CX0 1 f_law_number fd_law_number ["told"] (sp_law_number K) := ok_law_number T D_law_number
  refine D.F.ok sc_law_same_reason (fun vs H Q E h => ?_) (fun cdv A outer s H vs Q E hr h => ?_)
  · obtain ⟨tv, d, p, k, es, fs, rfl, _⟩ := h
    rfl
  · obtain ⟨tv, d, p, k, es, fs, rfl, hd, hc, R, e12, q⟩ := h
    have few := rngs_few (es := es) (fs := fs)
    refine ⟨_, (pss_cons (ps_if (pt_cmpR op_eq (pe_ix (r := rIxL K) ix_list (pv 1) pe_int (fun _ _ => rfl)) pe_int (nomark _)) (pss_one (ps_ret (pe_cmpR op_isNQ (pv 0) pe_non (nomark _)))) pss_nil)
    (pss_cons (ps_if (PW.pt (pw_or (pt_not (pt_val (pe_callB (r := rIsi K) call_isi (by rfl) T.b_isinstance (by decide +kernel) (pa_cons (pv 0) (pa_cons (pe_bltn (v := .ty "tuple") (by rfl) T.b_tuple (by decide +kernel) rfl) pa_nil))))) (pw_or (pt_cmpR op_ne (pe_callB (r := rLenQ K) call_lenQ (by rfl) T.b_len PySem.boot_len (pa_cons (pv 0) pa_nil)) (pe_callB (r := rLenQ K) call_lenQ (by rfl) T.b_len PySem.boot_len (pa_cons (pe_ix (r := rIxL K) ix_list (pv 1) pe_int (fun _ _ => rfl)) pa_nil)) (nomark _)) (pw_or1 (pt_cmpR op_ne (pe_ix (r := rIxT K) ix_tup (pv 0) pe_int (fun _ _ => rfl)) (pe_ix (r := rIxT K) ix_tup (pe_ix (r := rIxL K) ix_list (pv 1) pe_int (fun _ _ => rfl)) pe_int (fun _ _ => rfl)) (nomark _)))))) (pss_one (ps_ret pe_bl)) pss_nil)
    (pss_cons (ps_if (pt_cmpR op_eq (pe_callB (r := rLenQ K) call_lenQ (by rfl) T.b_len PySem.boot_len (pa_cons (pe_ix (r := rIxL K) ix_list (pv 1) pe_int (fun _ _ => rfl)) pa_nil)) pe_int (nomark _)) (pss_one (ps_ret pe_bl)) pss_nil)
    (pss_cons (ps_if (PW.pt (pw_or (pt_not (pt_val (pe_callB (r := rIsi K) call_isi (by rfl) T.b_isinstance (by decide +kernel) (pa_cons (pe_ix (r := rIxT K) ix_tup (pv 0) pe_int (fun _ _ => rfl)) (pa_cons (pe_bltn (v := .ty "tuple") (by rfl) T.b_tuple (by decide +kernel) rfl) pa_nil))))) (pw_or1 (pt_not (pt_val (pe_callB (r := rAll K) (cr_all rfl) (by rfl) T.b_all (by decide +kernel) (pa_cons (pe_lc (own := [("row", 2)]) (g := gName 2) (tt := tYes) rfl sc_law_same_reason.nd (pi_tup (pe_ix (r := rIxT K) ix_tup (pv 0) pe_int (fun _ _ => rfl)))
      (blkOk_by (own := [("row", 2)]) (N := ["told", "due", "row", "block"]) (sc := defScope s_law_same_reason) (by decide +kernel)) (fun _ _ _ _ _ => (pg_name (i := 2) sc_law_same_reason.nd rfl (.inl rfl))) (fun _ _ _ _ _ => pts_nil)
      (fun _ _ _ _ _ => (pe_callB (r := rIsi K) call_isi (by rfl) T.b_isinstance (by decide +kernel) (pa_cons (pv 2) (pa_cons (pe_bltn (v := .ty "tuple") (by rfl) T.b_tuple (by decide +kernel) rfl) pa_nil))))) pa_nil))))))) (pss_one (ps_ret pe_bl)) pss_nil)
    (pss_cons (ps_for PassesOwn.never rfl (pi_tup (pe_ix (r := rIxT K) ix_tup (pv 0) pe_int (fun _ _ => rfl))) (pg_name (i := 2) sc_law_same_reason.nd rfl (.inl rfl)) (pss_one (ps_if (pt_not (pt_val (pe_callB (r := rAll K) (cr_all rfl) (by rfl) T.b_all (by decide +kernel) (pa_cons (pe_lc (own := [("block", 3)]) (g := gName 3) (tt := tYes) rfl sc_law_same_reason.nd (pi_tup (pv 2))
      (blkOk_by (own := [("block", 3)]) (N := ["told", "due", "row", "block"]) (sc := defScope s_law_same_reason) (by decide +kernel)) (fun _ _ _ _ _ => (pg_name (i := 3) sc_law_same_reason.nd rfl (.inl rfl))) (fun _ _ _ _ _ => pts_nil)
      (fun _ _ _ _ _ => (pe_call G_law_number hr (by rfl) D_law_number.g D_law_number.F.kp D_law_number.b .nil pass0 (pa_cons (pv 3) pa_nil)))) pa_nil)))) (pss_one (ps_ret pe_bl)) pss_nil)))
    (pss_one (ps_ret (pe_cmpR (op_eqD hr.units) (pe_callB (r := rSortR K) (cr_sortR (by exact hr.units)) (by rfl) T.b_sorted (by decide +kernel) (pa_cons (pe_callTy (r := rLstQ K) call_lstQ (by rfl) T.b_list (by decide +kernel) (pa_cons (pe_ix (r := rIxT K) ix_tup (pv 0) pe_int (fun _ _ => rfl)) pa_nil)) pa_nil)) (pe_callTy (r := rLstQ K) call_lstQ (by rfl) T.b_list (by decide +kernel) (pa_cons (pe_ix (r := rIxT K) ix_tup (pe_ix (r := rIxL K) ix_list (pv 1) pe_int (fun _ _ => rfl)) pe_int (fun _ _ => rfl)) pa_nil)) (nomark _))))))))), ?_⟩
    walk_at "rx"
    rcases hc with ⟨k0, rfl⟩ | ⟨k0, p2, kk, rfl, h1, h2⟩
    · rw [decide_eq_true (show V.int (k : Int) = V.int 0 by rw [k0]; rfl)]
      walk_at "rx"
      rw [decide_eq_true (show V.non = V.non from rfl)]
      exact q _ (Same.refl _)
    · rw [decide_eq_false (show ¬ V.int (k : Int) = V.int 0 from fun w => k0 (by have := V.int.inj w; omega))]
      rcases h1 with ⟨k1, h1⟩ | ⟨k1, h1⟩ | ⟨k1, u, bs, h1, hu, tu⟩
      · rcases h2 with ⟨k2, h2⟩ | ⟨k2, h2⟩ | ⟨k2, v, cs, h2, hv, tv⟩
        · walk_at "rx"
          rw [decide_eq_true (show V.int (([V.str sFull].length : Nat) : Int) = V.int (([V.str sFull].length : Nat) : Int) from rfl)]
          walk_at "rx"
          rw [decide_eq_true (show V.str sFull = V.str sFull from rfl)]
          walk_at "rx"
          rw [decide_eq_true (show V.int (([V.str sFull].length : Nat) : Int) = V.int 1 from rfl)]
          walk_at "rx"
          exact q _ (Same.refl _)
        · omega
        · omega
      · rcases h2 with ⟨k2, h2⟩ | ⟨k2, h2⟩ | ⟨k2, v, cs, h2, hv, tv⟩
        · omega
        · walk_at "rx"
          rw [decide_eq_true (show V.int (([V.str sAlike].length : Nat) : Int) = V.int (([V.str sAlike].length : Nat) : Int) from rfl)]
          walk_at "rx"
          rw [decide_eq_true (show V.str sAlike = V.str sAlike from rfl)]
          walk_at "rx"
          rw [decide_eq_true (show V.int (([V.str sAlike].length : Nat) : Int) = V.int 1 from rfl)]
          walk_at "rx"
          exact q _ (Same.refl _)
        · omega
      · rcases h2 with ⟨k2, h2⟩ | ⟨k2, h2⟩ | ⟨k2, v, cs, h2, hv, tv⟩
        · omega
        · omega
        · have lb := NRows.len tu
          walk_at "rx"
          rw [decide_eq_true (show V.int (([V.str sRings, V.ref u].length : Nat) : Int) = V.int (([V.str sRings, V.ref v].length : Nat) : Int) from rfl)]
          walk_at "rx"
          rw [decide_eq_true (show V.str sRings = V.str sRings from rfl)]
          walk_at "rx"
          rw [decide_eq_false (show ¬ V.int (([V.str sRings, V.ref v].length : Nat) : Int) = V.int 1 from fun w => by cases w)]
          walk_at "rx"
          refine lc_map (walk_tup (xs := bs.map V.ref)) ((bs.map fun _ => true).map V.bl) ?_ ?_ (fun H' S => SqT.of (S _ _ hu)) ?_ ?_
          · rw [List.length_map, List.length_map, List.length_map]
          · rw [List.length_map]; omega
          · rintro i x H2 H3 Qc R2 hi S ⟨rfl, ex⟩ qc
            rw [List.length_map] at hi
            have eb : bs[i]? = some bs[i] := List.getElem?_eq_getElem hi
            rw [List.getElem?_map, eb] at ex
            cases ex
            obtain ⟨pp, e1, e2⟩ := NRows.get (NRows.same tu S) eb
            walk_at "rx"
            refine ⟨rfl, ?_⟩
            walk_at "rx"
            exact qc _ _ (Same.refl _) (by rw [List.getElem?_map, List.getElem?_map, eb]; rfl)
          intro H2 D S2 nD hD
          walk_at "rx"
          refine rd_all hD ?_
          rw [show (bs.map fun _ => true).all id = true from List.all_eq_true.mpr fun x hx => by obtain ⟨_, _, rfl⟩ := List.mem_map.mp hx; rfl]
          have h12 := S2 _ _ h1
          have hu2 := S2 _ _ hu
          walk_at "rx"
          refine fr_it (walk_tup (xs := bs.map V.ref)) (fun i σ H' => ∃ (y2 y3 : Option V), σ = [some (.ref p2), some (.ref d), y2, y3] ∧ Same H H') ⟨_, _, rfl, S2⟩ (fun i σ H' _ pp => ?_) ?_ ?_
          · obtain ⟨_, _, _, S⟩ := pp
            exact SqT.of (S _ _ hu)
          · rintro i x σ H3 H4 hi ⟨y2, y3, rfl, S⟩ ⟨rfl, ex⟩
            rw [List.length_map] at hi
            have eb : bs[i]? = some bs[i] := List.getElem?_eq_getElem hi
            rw [List.getElem?_map, eb] at ex
            cases ex
            obtain ⟨pp, e1, e2⟩ := NRows.get (NRows.same tu S) eb
            have lp := rngs_len R (List.mem_of_getElem? e1)
            walk_at "rx"
            refine lc_map (walk_tup (xs := nvs pp)) ((pp.map fun _ => true).map V.bl) ?_ ?_ (fun H' S => SqT.of (S _ _ e2)) ?_ ?_
            · rw [List.length_map, List.length_map, nvs_len]
            · rw [nvs_len]; omega
            · rintro j y H5 H6 Qc R2 hj S3 ⟨rfl, ey⟩ qc
              rw [nvs_len] at hj
              have ep : pp[j]? = some pp[j] := List.getElem?_eq_getElem hj
              rw [nvs_get ep] at ey
              cases ey
              walk_at "rx"
              refine ⟨rfl, ?_⟩
              walk_at "rx"
              exact ⟨_, rfl, qc _ _ (Same.refl _) (by rw [List.getElem?_map, List.getElem?_map, ep]; rfl)⟩
            intro H5 D5 S5 nD5 hD5
            walk_at "rx"
            refine rd_all hD5 ?_
            rw [show (pp.map fun _ => true).all id = true from List.all_eq_true.mpr fun x hx => by obtain ⟨_, _, rfl⟩ := List.mem_map.mp hx; rfl]
            walk_at "rx"
            exact ⟨_, _, rfl, S.trans S5⟩
          · rintro σ H3 ⟨y2, y3, rfl, S⟩
            have h13 := S _ _ h1
            have hu3 := S _ _ hu
            have hd3 := S _ _ hd
            have h23 := S _ _ h2
            have hv3 := S _ _ hv
            walk_at "rx"
            refine rd_newL fun H4 L S4 nL hL => ?_
            have S14 := S.trans S4
            walk_at "rx"
            refine rd_sortR hL (NRows.same tu S14) (rngs_ne R) (rngs_pw R) fun ds td => ?_
            refine rd_newL fun H5 M S5 nM hM => ?_
            have S15 := S14.trans S5
            have hd5 := S15 _ _ hd
            have h25 := S15 _ _ h2
            have hv5 := S15 _ _ hv
            walk_at "rx"
            refine rd_newL fun H6 N S6 nN hN => ?_
            have hM6 := S6 _ _ hM
            refine rd_eqRR hM6 (NRows.same td (S5.trans S6)) hN (NRows.same tv (S15.trans S6)) ?_
            walk_at "rx"
            exact q _ (S15.trans S6)
def spcheck_image (K : PySem.W.Frag) : Sp := fun vs H Q E => ∃ (v : V), vs = [v] ∧
  ((∃ es, IG H v es ∧ ∀ H', Same H H' → Q .non H') ∨ (∃ M k, IB M H v k ∧ ∀ H' d, Same H H' → H' d = some (.xd [("block", .int k)]) → E (.ref (atTop K "InvalidImage")) (some d) H'))
set_option maxHeartbeats 4000000 in
theorem okcheck_image (T : Top K mg) {f : Addr} {fd : FuncData} (D : Def K mg "check_image" scheck_image ["image"] f fd) : FnOk P w K mg base (L2.CX P w) 3 f fd ["image"] (spcheck_image K) := by
  obtain ⟨fE_InvalidImage, fdE_InvalidImage, ET_InvalidImage, FE_InvalidImage, bE_InvalidImage⟩ := T.e_InvalidImage
  have GI_InvalidImage := okInit_InvalidImage (P := P) (w := w) (base := base) ET_InvalidImage FE_InvalidImage
  refine D.F.okX sccheck_image (fun vs H Q E h => ?_) (fun cdv A outer s H vs Q E hr h => ?_)
  · obtain ⟨v, rfl, _⟩ := h
    rfl
  · obtain ⟨v, rfl, hc⟩ := h
    refine ⟨_, (pss_cons (ps_if (PW.pt (pw_or (pt_not (pt_val (pe_callB (r := rIsO K) call_isO (by rfl) T.b_isinstance (by decide +kernel) (pa_cons (pv 0) (pa_cons (pe_bltn (v := .ty "tuple") (by rfl) T.b_tuple (by decide +kernel) rfl) pa_nil))))) (pw_or1 (pt_not (pt_chain op_le op_le pe_int (pe_callB (r := rLenQ K) call_lenQ (by rfl) T.b_len PySem.boot_len (pa_cons (pv 0) pa_nil)) (Rv.pe_k (by rfl) T.k__MOST_BLOCKS)))))) (pss_one (ps_raiseQ rfl (takes_of rfl rfl rfl rfl) (pmk_oex ET_InvalidImage.ox ET_InvalidImage.iC ET_InvalidImage.tI GI_InvalidImage (hr.mono (by decide)) bE_InvalidImage .nil pass0 (by rfl) ET_InvalidImage.gC (pa_cons (pe_un un_neg pe_int) pa_nil)))) pss_nil)
    (pss_one (ps_for (passes_of rfl) rfl (pi_enO (by rfl) T.b_enumerate (pa_cons (pv 0) pa_nil)) (pg_tup rfl (pgs_cons (pg_name (i := 1) sccheck_image.nd rfl (.inl rfl)) (pgs_cons (pg_name (i := 2) sccheck_image.nd rfl (.inl rfl)) pgs_nil))) (pss_one (ps_if (PW.pt (pw_or (pt_not (pt_val (pe_callB (r := rIsi K) call_isi (by rfl) T.b_isinstance (by decide +kernel) (pa_cons (pv 2) (pa_cons (pe_bltn (v := .ty "int") (by rfl) T.b_int (by decide +kernel) rfl) pa_nil))))) (pw_or1 (pt_not (pt_chain op_le op_le (Rv.pe_k (by rfl) T.k_EMPTY) (pv 2) (Rv.pe_k (by rfl) T.k__GREATEST)))))) (pss_one (ps_raiseQ rfl (takes_of rfl rfl rfl rfl) (pmk_oex ET_InvalidImage.ox ET_InvalidImage.iC ET_InvalidImage.tI GI_InvalidImage (hr.mono (by decide)) bE_InvalidImage .nil pass0 (by rfl) ET_InvalidImage.gC (pa_cons (pv 1) pa_nil)))) pss_nil))))), ?_⟩
    by_cases hv : ∃ p es, v = .ref p ∧ TG H p es ∧ 1 ≤ es.length ∧ es.length ≤ 12
    · obtain ⟨p, es, rfl, hp, x1, x12⟩ := hv
      obtain ⟨hG, hX⟩ : ((∀ i : Nat, i < es.length → EOk (es.getD i 0)) → ∀ H', Same H H' → Q .non H') ∧
          (∀ j : Nat, j < es.length → ¬ EOk (es.getD j 0) → (∀ i : Nat, i < j → EOk (es.getD i 0)) → ∀ H' d, Same H H' → H' d = some (.xd [("block", .int (j : Int))]) → E (.ref (atTop K "InvalidImage")) (some d) H') := by
        rcases hc with ⟨fs, ⟨a, e1, e2, I⟩, q⟩ | ⟨M, k, bad, q⟩
        · cases e1
          have e := hp.inj e2
          subst e
          exact ⟨fun _ => q, fun j hj n _ => absurd (I.2.2 _ (mem_at hj)) n⟩
        · rcases bad with ⟨_, ⟨p2, ys, e, _, h⟩ | ⟨p2, ys, e, h, l, _⟩⟩ | ⟨p2, ys, j, e, h, l1, l2, ek, hj, nx, ob⟩
          · cases e
            exact absurd h hp.nl
          · cases e
            rw [hp.inj h] at x1 x12
            omega
          · cases e
            have e := hp.inj h
            subst e
            refine ⟨fun g => absurd (g j hj) nx, fun j2 hj2 nx2 ob2 => ?_⟩
            have : j2 = j := by
              rcases Nat.lt_trichotomy j2 j with z | z | z
              · exact absurd (ob j2 z) nx2
              · exact z
              · exact absurd (ob2 j z) nx
            subst this
            rw [ek] at q
            exact q
      walk_at "rx"
      rw [decide_eq_true (show (1 : Int) ≤ ((es.length : Nat) : Int) by omega)]
      walk_at "rx"
      rw [decide_eq_true (show ((es.length : Nat) : Int) ≤ 12 by omega)]
      walk_at "rx"
      refine rd_EnO hp fun G hG0 => ?_
      refine fr_it walk_jen (fun i σ H' => ∃ y1 y2, σ = [some (.ref p), y1, y2] ∧ Same H H' ∧ ∀ j : Nat, j < i → EOk (es.getD j 0)) ⟨none, none, rfl, Same.refl H, fun j h => absurd h (Nat.not_lt_zero j)⟩ (fun i σ H' _ pp => ?_) ?_ ?_
      · obtain ⟨_, _, _, S, _⟩ := pp
        exact hG0 _ S
      · rintro i x σ H1 H2 hi ⟨y1, y2, rfl, S, ob⟩ ⟨t, u, w, rfl, nT, rfl, e1, e2⟩
        cases e1
        have hi2 : i < es.length := by rw [List.length_map] at hi; exact hi
        have e3 : (es.map V.int)[i]? = some w := e2
        rw [List.getElem?_map, get_at hi2] at e3
        cases e3
        have S3 := same_new (o := .tup [.int (i : Nat), V.int (es.getD i 0)]) S nT
        walk_at "rx"
        by_cases z1 : -1 ≤ es.getD i 0
        · rw [decide_eq_true z1]
          walk_at "rx"
          by_cases z2 : es.getD i 0 ≤ 999
          · rw [decide_eq_true z2]
            walk_at "rx"
            refine ⟨_, _, rfl, S3, fun j hj => ?_⟩
            by_cases z : j = i
            · rw [z]; exact ⟨z1, z2⟩
            · exact ob j (by omega)
          · rw [decide_eq_false z2]
            walk_at "rx"
            exact mkErr fun H8 d S8 hd => hX i hi2 (fun w => z2 w.2) ob H8 d (S3.trans S8) hd
        · rw [decide_eq_false z1]
          walk_at "rx"
          exact mkErr fun H8 d S8 hd => hX i hi2 (fun w => z1 w.1) ob H8 d (S3.trans S8) hd
      · rintro σ H' ⟨y1, y2, rfl, S, ob⟩
        exact hG (fun i hi => ob i (by rw [List.length_map]; exact hi)) _ S
    · rcases hc with ⟨es, ⟨a, e1, e2, I⟩, q⟩ | ⟨M, k, bad, q⟩
      · exact absurd ⟨a, _, e1, e2, I.1, I.2.1⟩ hv
      · rcases bad with ⟨ek, ⟨p2, ys, rfl, _, h⟩ | ⟨p2, ys, rfl, h, l, l2⟩⟩ | ⟨p2, ys, j, e, h, l1, l2, _⟩
        · rw [ek] at q
          walk_at "rx"
          refine rd_isOL h ?_
          walk_at "rx"
          exact mkErr fun H8 d S8 hd => q H8 d S8 hd
        · rw [ek] at q
          walk_at "rx"
          by_cases z1 : (1 : Int) ≤ ((ys.length : Nat) : Int)
          · rw [decide_eq_true z1]
            walk_at "rx"
            rw [decide_eq_false (show ¬ ((ys.length : Nat) : Int) ≤ 12 by omega)]
            walk_at "rx"
            exact mkErr fun H8 d S8 hd => q H8 d S8 hd
          · rw [decide_eq_false z1]
            walk_at "rx"
            exact mkErr fun H8 d S8 hd => q H8 d S8 hd
        · exact absurd ⟨p2, ys, e, h, l1, l2⟩ hv
def spcheck_renaming (K : PySem.W.Frag) : Sp := fun vs H Q E => ∃ (v1 v2 : V), vs = [v1, v2] ∧ PairS K H v1 v2 E fun _ _ _ _ => ∀ H', Same H H' → Q .non H'
set_option maxHeartbeats 4000000 in
theorem okcheck_renaming (T : Top K mg) {f : Addr} {fd : FuncData} (D : Def K mg "check_renaming" scheck_renaming ["before", "after"] f fd) : FnOk P w K mg base (L2.CX P w) 4 f fd ["before", "after"] (spcheck_renaming K) := by
  have ET_NotRenaming := T.e_NotRenaming
  obtain ⟨fcheck_image, fdcheck_image, Dcheck_image⟩ := T.d_check_image
  have Gcheck_image : FnOk P w K mg base (L2.CX P w) 3 fcheck_image fdcheck_image ["image"] (spcheck_image K) := okcheck_image T Dcheck_image
  refine D.F.okX sccheck_renaming (fun vs H Q E h => ?_) (fun cdv A outer s H vs Q E hr h => ?_)
  · obtain ⟨v1, v2, rfl, _⟩ := h
    rfl
  · obtain ⟨v1, v2, rfl, hc⟩ := h
    refine ⟨_, (pss_cons (ps_expr (pe_callS Gcheck_image hr (by rfl) Dcheck_image.g Dcheck_image.F.kp Dcheck_image.b (fun σ => passAt (takes_of rfl rfl rfl rfl) σ) (pa_cons (pv 0) pa_nil)))
    (pss_cons (ps_expr (pe_callS Gcheck_image hr (by rfl) Dcheck_image.g Dcheck_image.F.kp Dcheck_image.b (fun σ => passAt (takes_of rfl rfl rfl rfl) σ) (pa_cons (pv 1) pa_nil)))
    (pss_cons (ps_setLc (i := 2) (own := [("entry", 3)]) (g := gName 3) (tt := _) rfl sccheck_renaming.nd rfl rfl (sw_true rfl rfl rfl (by decide +kernel)) (pi_tup (pv 0))
      (blkOk_by (own := [("entry", 3)]) (N := ["before", "after", "values", "entry"]) (sc := defScope scheck_renaming) (by decide +kernel)) (fun _ _ _ _ _ => (pg_name (i := 3) sccheck_renaming.nd rfl (.inl rfl))) (fun _ _ _ _ _ => pts_one (pt_cmpR op_ne (pv 3) (Rv.pe_k (by rfl) T.k_EMPTY) (nomark _)))
      (fun _ _ _ _ _ => (pv 3)))
    (pss_one (ps_if (PW.pt (pw_or (pt_cmpR (op_neD hr.units) (pe_callB (r := rSortO K) cr_sortO (by rfl) T.b_sorted (by decide +kernel) (pa_cons (pv 0) pa_nil)) (pe_callB (r := rSortO K) cr_sortO (by rfl) T.b_sorted (by decide +kernel) (pa_cons (pv 1) pa_nil)) (nomark _)) (pw_or1 (pt_cmpR op_lt (pe_callB (r := rLenSO w) call_lenSO (by rfl) T.b_len PySem.boot_len (pa_cons (pe_callTy (r := rSetI K w) (cr_setI rfl) (by rfl) T.b_set (by decide +kernel) (pa_cons (pv 2) pa_nil)) pa_nil)) (pe_callB (r := rLenQ K) call_lenQ (by rfl) T.b_len PySem.boot_len (pa_cons (pv 2) pa_nil)) (nomark _))))) (pss_one (ps_raiseQ rfl (takes_of rfl rfl rfl rfl) (pmk_own0 PySem.F.excBase_ValueError ET_NotRenaming.q ET_NotRenaming.gC ET_NotRenaming.kC (raises_own ET_NotRenaming.bC ET_NotRenaming.tC) (by rfl)))) pss_nil))))), ?_⟩
    have hc2 : (∃ es fs, IG H v1 es ∧ IG H v2 fs ∧ ((Ren es fs ∧ ∀ H', Same H H' → Q .non H') ∨ (¬ Ren es fs ∧ ∀ H', Same H H' → E (.ref (atTop K "NotRenaming")) none H'))) ∨ (∃ M k, PB M H v1 v2 k ∧ ∀ H' d, Same H H' → H' d = some (.xd [("block", .int k)]) → E (.ref (atTop K "InvalidImage")) (some d) H') := by
      rcases hc with ⟨a, b, es, fs, rfl, rfl, r, q⟩ | ⟨M, k, bad, q⟩ | ⟨es, fs, i1, i2, n, q⟩
      · exact .inl ⟨es, fs, ⟨a, rfl, r.ta, r.ia⟩, ⟨b, rfl, r.tb, r.ib⟩, .inl ⟨r.rn, q⟩⟩
      · exact .inr ⟨M, k, bad, q⟩
      · exact .inl ⟨es, fs, i1, i2, .inr ⟨n, q⟩⟩
    rcases hc2 with ⟨es, fs, h1, h2, hq⟩ | ⟨M, k, bad, q⟩
    · walk_at "rx"
      refine ⟨v1, rfl, .inl ⟨es, h1, fun H1 S1 => ?_⟩⟩
      walk_at "rx"
      refine ⟨v2, rfl, .inl ⟨fs, h2.same S1, fun H2 S2 => ?_⟩⟩
      have S12 := S1.trans S2
      obtain ⟨a, rfl, ha, I⟩ := h1.same S12
      obtain ⟨b, rfl, hb, J⟩ := h2.same S12
      have e12 := I.2.1
      have f12 := J.2.1
      walk_at "rx"
      refine lc_acc (walk_tup (xs := es.map V.int)) (fun i acc => acc = (full (es.take i)).map V.int) rfl (fun i acc hi e => by
        rw [e, List.length_map]
        have := List.length_filter_le (fun x => !decide (x = -1)) (es.take i)
        unfold full
        rw [List.length_take] at this
        omega) (fun H' S => (ha.same S).sq) ?_ ?_
      · rintro i x Hx Hy acc Qc R hi Sx e ⟨rfl, ex⟩ qc rc
        have hi2 : i < es.length := by rw [List.length_map] at hi; exact hi
        rw [List.getElem?_map, List.getElem?_eq_getElem hi2] at ex
        cases ex
        have nx : ∀ r, (if es[i] = -1 then [] else [es[i]]) = r → full (es.take (i + 1)) = full (es.take i) ++ r := fun r er => by
          unfold full
          rw [take_next hi2, List.filter_append, ← er]
          congr 1
          by_cases z : es[i] = -1
          · rw [if_pos z, List.filter_cons_of_neg (by simpa using z)]; rfl
          · rw [if_neg z, List.filter_cons_of_pos (by simpa using z)]; rfl
        walk_at "rx"
        refine ⟨rfl, ?_⟩
        walk_at "rx"
        by_cases z : es[i] = -1
        · rw [decide_eq_true (show V.int es[i] = V.int (-1) from by rw [z])]
          walk_at "rx"
          refine rc _ (Same.refl _) ?_
          rw [nx _ rfl, if_pos z, List.append_nil]
          exact e
        · rw [decide_eq_false (show ¬ V.int es[i] = V.int (-1) from fun w => z (V.int.inj w))]
          walk_at "rx"
          refine qc _ _ (Same.refl _) ?_
          rw [nx _ rfl, if_neg z, List.map_append, e]
          rfl
      · intro H3 D acc S3 nD hD e
        rw [e, List.length_map, List.take_length] at hD
        have lf : (full es).length ≤ es.length := List.length_filter_le _ _
        have ha3 := ha.same S3
        walk_at "rx"
        refine rd_sortO ha3 (by omega) fun H4 p4 ms S4 n4 h4 pm4 pw4 => ?_
        have hb4 := (hb.same S3).same S4
        walk_at "rx"
        refine rd_sortO hb4 (by omega) fun H5 p5 ns S5 n5 h5 pm5 pw5 => ?_
        have h45 := S5 _ _ h4
        have hD5 := S5 _ _ (S4 _ _ hD)
        have S05 := ((S12.trans S3).trans S4).trans S5
        refine rd_neL h45 h5 ?_
        by_cases em : ms = ns
        · have pm : es.Perm fs := (pm4.symm.trans (by rw [em])).trans pm5
          rw [decide_eq_true em]
          walk_at "rx"
          refine rd_setI (.inl hD5) (by omega) fun H6 st c S6 n6 hc h6 => ?_
          walk_at "rx"
          refine rd_lenSO h6 fun hk => ?_
          obtain ⟨ks, k1, k2, k3⟩ := hk
          have hD6 := S6 _ _ hD5
          walk_at "rx"
          rw [List.length_map]
          by_cases nd : (full es).Nodup
          · have := card_nodup nd k1 k2
            rw [decide_eq_false (show ¬ ((c : Nat) : Int) < (((full es).length : Nat) : Int) by omega)]
            walk_at "rx"
            rcases hq with ⟨_, q⟩ | ⟨n, _⟩
            · exact q _ (S05.trans S6)
            · exact absurd ⟨pm, nd⟩ n
          · have := card_dup nd k1 k2
            rw [decide_eq_true (show ((c : Nat) : Int) < (((full es).length : Nat) : Int) by omega)]
            walk_at "rx"
            rcases hq with ⟨r, _⟩ | ⟨_, q⟩
            · exact absurd r.nd nd
            · exact q _ (S05.trans S6)
        · rw [decide_eq_false em]
          walk_at "rx"
          rcases hq with ⟨r, _⟩ | ⟨_, q⟩
          · exact absurd (srt_uniq ((pm4.trans r.pm).trans pm5.symm) pw4 pw5) em
          · exact q _ S05
    · walk_at "rx"
      rcases bad with bad | ⟨es, h1, bad⟩
      · exact ⟨v1, rfl, .inr ⟨M, k, bad, q⟩⟩
      · refine ⟨v1, rfl, .inl ⟨es, h1, fun H1 S1 => ?_⟩⟩
        walk_at "rx"
        exact ⟨v2, rfl, .inr ⟨M, k, bad.same S1, fun H' d S => q H' d (S1.trans S)⟩⟩
def sp_sign (_K : PySem.W.Frag) : Sp := fun vs H Q _ => ∃ e : Int, vs = [.int e] ∧ (-1 ≤ e ∧ e ≤ 999) ∧ Q (.str (one (sg e))) H
set_option maxHeartbeats 4000000 in
theorem ok_sign (T : Top K mg) {f : Addr} {fd : FuncData} (D : Def K mg "_sign" s_sign ["entry"] f fd) : FnOk P w K mg base CX0 1 f fd ["entry"] (sp_sign K) := by
  refine D.F.ok sc_sign (fun vs H Q E h => ?_) (fun cdv A outer s H vs Q E hr h => ?_)
  · obtain ⟨e, rfl, _⟩ := h
    rfl
  · obtain ⟨e, rfl, ⟨he0, he1⟩, q⟩ := h
    refine ⟨_, (pss_cons (ps_if (pt_cmpR op_eq (pv 0) (Rv.pe_k (by rfl) T.k_EMPTY) (nomark _)) (pss_one (ps_ret pe_str)) pss_nil)
    (pss_one (ps_ret (pe_callTy call_strQ (by rfl) T.b_str (by decide +kernel) (pa_cons (pe_op op_fdivN (pv 0) pe_int) pa_nil))))), ?_⟩
    walk_at "rd"
    refine ite2 (fun z => ?_) (fun z => ?_)
    · have z1 : e = -1 := V.int.inj (of_decide_eq_true z)
      walk_at "rd"
      rw [z1] at q
      exact q
    · have z1 : e ≠ -1 := fun k => z (by rw [k]; rfl)
      walk_at "rd"
      obtain ⟨k0, k1⟩ := kind_small (e := e) (by omega) he1
      refine rd_strQ k0 k1 ?_
      rw [digit_txtI k0 k1]
      unfold sg at q
      rw [if_neg z1] at q
      exact q
def splook (_K : PySem.W.Frag) : Sp := fun vs H Q _ => ∃ (a : Addr) (es : List Int), vs = [.ref a] ∧ TG H a es ∧ Img es ∧ ∀ H', Same H H' → Q (.str (txt (codes es))) H'
set_option maxHeartbeats 4000000 in
theorem oklook (T : Top K mg) {f : Addr} {fd : FuncData} (D : Def K mg "look" slook ["image"] f fd) : FnOk P w K mg base CX0 4 f fd ["image"] (splook K) := by
  obtain ⟨fcheck_image, fdcheck_image, Dcheck_image⟩ := T.d_check_image
  have Gcheck_image : FnOk P w K mg base (L2.CX P w) 3 fcheck_image fdcheck_image ["image"] (spcheck_image K) := okcheck_image T Dcheck_image
  obtain ⟨f_sign, fd_sign, D_sign⟩ := T.d__sign
  have G_sign : FnOk P w K mg base CX0 1 f_sign fd_sign ["entry"] (sp_sign K) := ok_sign T D_sign
  refine D.F.ok sclook (fun vs H Q E h => ?_) (fun cdv A outer s H vs Q E hr h => ?_)
  · obtain ⟨a, es, rfl, _⟩ := h
    rfl
  · obtain ⟨a, es, rfl, hT, I, q⟩ := h
    have I0 := I
    obtain ⟨I1, I2, I3⟩ := I
    refine ⟨_, (pss_cons (ps_expr (pe_call Gcheck_image hr (by rfl) Dcheck_image.g Dcheck_image.F.kp Dcheck_image.b .nil passL (pa_cons (pv 0) pa_nil)))
    (pss_one (ps_ret (pe_join pe_str (pe_lc (own := [("entry", 1)]) (g := gName 1) (tt := tYes) rfl sclook.nd (pi_tup (pv 0))
      (blkOk_by (own := [("entry", 1)]) (N := ["image", "entry"]) (sc := defScope slook) (by decide +kernel)) (fun _ _ _ _ _ => (pg_name (i := 1) sclook.nd rfl (.inl rfl))) (fun _ _ _ _ _ => pts_nil)
      (fun _ _ _ _ _ => (pe_call G_sign (hr.mono (by decide)) (by rfl) D_sign.g D_sign.F.kp D_sign.b .nil pass0 (pa_cons (pv 1) pa_nil)))))))), ?_⟩
    walk_at "rx"
    refine ⟨.ref a, rfl, .inl ⟨es, ⟨a, rfl, hT, I0⟩, fun H1 S1 => ?_⟩⟩
    have hT1 := hT.same S1
    walk_at "rx"
    refine lc_map (walk_tup (xs := es.map V.int)) ((codes es).map fun c => V.str (one c)) ?_ ?_ (fun H' S => (hT1.same S).sq) ?_ ?_
    · simp [codes]
    · rw [List.length_map]
      omega
    · rintro i x H2 H3 Qc R hi S ⟨rfl, ex⟩ qc
      have hi2 : i < es.length := by rw [List.length_map] at hi; exact hi
      rw [List.getElem?_map, List.getElem?_eq_getElem hi2] at ex
      cases ex
      walk_at "rx"
      refine ⟨rfl, ?_⟩
      walk_at "rx"
      refine ⟨_, rfl, I3 _ (List.getElem_mem hi2), qc _ _ (Same.refl _) ?_⟩
      unfold codes
      rw [List.map_map, List.getElem?_map, List.getElem?_eq_getElem hi2]
      rfl
    · intro H2 D S nD hD
      walk_at "rx"
      refine ⟨_, D, (codes es).map one, rfl, rfl, .inl (SqL.of (by rw [List.map_map]; exact hD)), ?_, ?_⟩
      · rw [ones_sum, List.length_map, codes_len]
        show es.length + es.length * 0 ≤ _
        omega
      · rw [join_sg]
        exact q _ (S1.trans S)
def sp_is_of_one_kind (_K : PySem.W.Frag) : Sp := fun vs H Q _ => ∃ (a : Addr) (es : List Int), vs = [.ref a] ∧ TG H a es ∧ Img es ∧ ∀ H', Same H H' → Q (.bl (decide (mono es))) H'
set_option maxHeartbeats 4000000 in
theorem ok_is_of_one_kind (T : Top K mg) {f : Addr} {fd : FuncData} (D : Def K mg "_is_of_one_kind" s_is_of_one_kind ["image"] f fd) : FnOk P w K mg base CX0 5 f fd ["image"] (sp_is_of_one_kind K) := by
  obtain ⟨flook, fdlook, Dlook⟩ := T.d_look
  have Glook : FnOk P w K mg base CX0 4 flook fdlook ["image"] (splook K) := oklook T Dlook
  refine D.F.ok sc_is_of_one_kind (fun vs H Q E h => ?_) (fun cdv A outer s H vs Q E hr h => ?_)
  · obtain ⟨a, es, rfl, _⟩ := h
    rfl
  · obtain ⟨a, es, rfl, hT, I, q⟩ := h
    have I0 := I
    obtain ⟨I1, I2, I3⟩ := I
    refine ⟨_, (pss_one (ps_ret (pe_cmpR op_lt (pe_callB (r := rLenSK P w) call_lenSK (by rfl) T.b_len PySem.boot_len (pa_cons (pe_sk (P := P) (w := w) (own := [("sign", 1)]) (g := gName 1) (tt := _) rfl rfl rfl sc_is_of_one_kind.nd (pi_str (pe_call Glook hr (by rfl) Dlook.g Dlook.F.kp Dlook.b .nil pass0 (pa_cons (pv 0) pa_nil)))
      (blkOk_by (own := [("sign", 1)]) (N := ["image", "sign"]) (sc := defScope s_is_of_one_kind) (by decide +kernel)) (fun _ _ _ _ _ => (pg_name (i := 1) sc_is_of_one_kind.nd rfl (.inl rfl))) (fun _ _ _ _ _ => pts_one (pt_cmpR op_ne (pv 1) pe_str (nomark _)))
      (fun _ _ _ _ _ => (pv 1))) pa_nil)) pe_int (nomark _)))), ?_⟩
    walk_at "rx"
    refine ⟨a, es, rfl, hT, I0, fun H1 S1 => ?_⟩
    walk_at "rx"
    refine sk_it walk_its (fun i ks => ks = sgns (codes es) i) rfl (fun i ks hi e => by
      have := sgns_len (codes es) i
      have := codes_len es
      rw [e]
      omega) (fun _ _ => trivial) ?_ ?_
    · rintro i x H2 H3 ks Qc R hi S e ⟨rfl, hi2, rfl⟩ qc rc
      have nx := sgns_next hi2
      walk_at "rx"
      refine ⟨rfl, ?_⟩
      walk_at "rx"
      have ed : decide (V.str (one (codes es)[i]) = V.str (Str.ofString ".")) = decide ((codes es)[i] = 46) := decide_eq_decide.mpr ⟨fun k => sgn_inj (V.str.inj k), fun k => by rw [k]; rfl⟩
      rw [ed]
      by_cases z : (codes es)[i] = 46
      · rw [decide_eq_true z]
        walk_at "rx"
        refine rc _ (Same.refl _) ?_
        rw [nx, if_pos z, List.append_nil]
        exact e
      · rw [decide_eq_false z]
        walk_at "rx"
        refine qc _ _ (Same.refl _) ?_
        rw [nx, if_neg z, e]
    · rintro H2 d ks c S nD hc hD e
      rw [e] at hc
      walk_at "rx"
      refine rd_lenSK hD ?_
      walk_at "rx"
      rw [mono_dn I3 hc]
      exact q _ (S1.trans S)
def spfollowed (_K : PySem.W.Frag) : Sp := fun vs H Q _ => ∃ (l : Addr) (es fs : List Int) (b : Nat), vs = [.ref l, .int (b : Int)] ∧ H l = some (.tup ((ldL es fs).map V.int)) ∧ Ren es fs ∧ es.length ≤ 12 ∧ b < es.length ∧ ∀ H' p, Same H H' → H' p = some (.tup (nvs (Fo es fs b))) → Q (.ref p) H'
set_option maxHeartbeats 4000000 in
theorem okfollowed (T : Top K mg) {f : Addr} {fd : FuncData} (D : Def K mg "followed" sfollowed ["leads", "block"] f fd) : FnOk P w K mg base CX0 1 f fd ["leads", "block"] (spfollowed K) := by
  refine D.F.ok scfollowed (fun vs H Q E h => ?_) (fun cdv A outer s H vs Q E hr h => ?_)
  · obtain ⟨l, es, fs, b, rfl, _⟩ := h
    rfl
  · obtain ⟨l, es, fs, b, rfl, hl, R, l12, hb, q⟩ := h
    have lf := R.len
    refine ⟨_, (pss_cons (ps_set (i := 2) scfollowed.nd rfl (.inl rfl) (pe_lst (pa_cons (pv 1) pa_nil)))
    (pss_cons (ps_while PassesOwn.never (PW.pt (pw_and (pt_cmpR op_ne (pe_ix (r := rIxT K) ix_tup (pv 0) (pe_ix (r := rIxL K) ix_list (pv 2) (pe_un un_neg pe_int) (fun _ _ => rfl)) (fun _ _ => rfl)) (Rv.pe_k (by rfl) T.k_EMPTY) (nomark _)) (pw_and1 (pt_cmpR (r := rIn K true) op_notIn_seq (pe_ix (r := rIxT K) ix_tup (pv 0) (pe_ix (r := rIxL K) ix_list (pv 2) (pe_un un_neg pe_int) (fun _ _ => rfl)) (fun _ _ => rfl)) (pv 2) (by rfl))))) (pss_one (ps_expr (pe_bm PySem.F.plainAttrs_list PySem.F.slot_list_append PySem.F.type_list_append mt_append (pv 2) (pa_cons (pe_ix (r := rIxT K) ix_tup (pv 0) (pe_ix (r := rIxL K) ix_list (pv 2) (pe_un un_neg pe_int) (fun _ _ => rfl)) (fun _ _ => rfl)) pa_nil)))))
    (pss_one (ps_ret (pe_callTy (r := rTupQ K) call_tupQ (by rfl) T.b_tuple (by decide +kernel) (pa_cons (pv 2) pa_nil)))))), ?_⟩
    walk_at "rx"
    refine rd_newQ (by simp) fun H1 D S1 nD hD => ?_
    walk_at "rx"
    refine ⟨fun m σ H' => ∃ p : List Nat, σ = [some (.ref l), some (.int (b : Int)), some (.ref D)] ∧ Same H H' ∧ H' D = some (.lst (nvs p)) ∧ Pth (G es fs) es.length b p ∧ p.length + m = es.length + 1 ∧ fol (G es fs) m p = Fo es fs b,
      ⟨es.length, [b], rfl, S1, hD, .start hb, by rw [List.length_singleton]; omega, rfl⟩, ?_⟩
    rintro m σ H2 ⟨p, rfl, S2, hD2, P, lm, ef⟩
    have hl2 := S2 _ _ hl
    have ll := P.lt _ (last_mem P.ne)
    have la := nvs_last P.ne
    have ga := ldL_at (es := es) (fs := fs) (b := p.getLastD 0) (by omega)
    have done : fol (G es fs) m p = p → ∀ H3 t, Same H2 H3 → H3 t = some (.tup (nvs p)) → Q (.ref t) H3 := fun e H3 t S3 h3 => q H3 t (S2.trans S3) (by rw [← ef, e]; exact h3)
    walk_at "rx"
    by_cases n : fs.getD (p.getLastD 0) 0 = -1
    · rw [if_pos n] at ga ⊢
      rw [decide_eq_true (show V.int (-1) = V.int (-1) from rfl)]
      walk_at "rx"
      have e : fol (G es fs) m p = p := fol_stop (by unfold G; rw [if_pos n]; exact last_mem P.ne) m
      refine rd_newL fun H3 t S3 n3 h3 => done e H3 t S3 h3
    · rw [if_neg n] at ga ⊢
      have gl := (R.to ll n).1
      rw [decide_eq_false (show ¬ V.int ((G es fs (p.getLastD 0) : Nat) : Int) = V.int (-1) from fun z => by have := V.int.inj z; omega)]
      walk_at "rx"
      refine rd_ninLf hD2 rfl (nvs_flat _) ?_
      rw [nvs_in]
      refine ⟨_, rfl, ?_⟩
      by_cases z : G es fs (p.getLastD 0) ∈ p
      · rw [decide_eq_true z]
        show if false = true then _ else _
        walk_at "rx"
        refine rd_newL fun H3 t S3 n3 h3 => done (fol_stop z m) H3 t S3 h3
      · rw [decide_eq_false z]
        show if true = true then _ else _
        have lp := P.len
        cases m with
        | zero => exact absurd lm (by omega)
        | succ m =>
          walk_at "rx"
          refine ⟨fun σ' H' => ∃ p2 : List Nat, σ' = [some (.ref l), some (.int (b : Int)), some (.ref D)] ∧ Same H H' ∧ H' D = some (.lst (nvs p2)) ∧ Pth (G es fs) es.length b p2 ∧ p2.length + m = es.length + 1 ∧ fol (G es fs) m p2 = Fo es fs b, fun σ' H' k => ⟨m, Nat.lt_succ_self m, k⟩, ?_⟩
          have la2 : (nvs p).length < 1000 := by rw [nvs_len]; omega
          walk_at "rx"
          exact ⟨p ++ [G es fs (p.getLastD 0)], rfl, same_mut S2 nD, by rw [nvs_app]; exact upd_same, P.next z gl, by rw [List.length_append, List.length_singleton]; omega, (fol_step z m).symm.trans ef⟩
def spall_rings (_K : PySem.W.Frag) : Sp := fun vs H Q _ => ∃ (l : Addr) (es fs : List Int), vs = [.ref l] ∧ H l = some (.tup ((ldL es fs).map V.int)) ∧ Ren es fs ∧ es.length ≤ 12 ∧ ∀ H' l2 bs, Same H H' → H' l2 = some (.lst (bs.map V.ref)) → NRows H' bs ((tops es fs es.length).map (Fo es fs)) → H l2 = none → Q (.ref l2) H'
set_option maxHeartbeats 4000000 in
theorem okall_rings (T : Top K mg) {f : Addr} {fd : FuncData} (D : Def K mg "all_rings" sall_rings ["leads"] f fd) : FnOk P w K mg base CX0 2 f fd ["leads"] (spall_rings K) := by
  obtain ⟨ffollowed, fdfollowed, Dfollowed⟩ := T.d_followed
  have Gfollowed : FnOk P w K mg base CX0 1 ffollowed fdfollowed ["leads", "block"] (spfollowed K) := okfollowed T Dfollowed
  refine D.F.ok scall_rings (fun vs H Q E h => ?_) (fun cdv A outer s H vs Q E hr h => ?_)
  · obtain ⟨l, es, fs, rfl, _⟩ := h
    rfl
  · obtain ⟨l, es, fs, rfl, hl, R, l12, q⟩ := h
    have lf := R.len
    have ll : ((ldL es fs).map V.int).length = es.length := by rw [List.length_map, ldL_len, ← lf]
    have hr1 : -100000 ≤ ((((ldL es fs).map V.int).length : Nat) : Int) ∧ ((((ldL es fs).map V.int).length : Nat) : Int) ≤ 100000 := by rw [ll]; omega
    refine ⟨_, (pss_cons (ps_setLc (i := 1) (own := [("block", 2)]) (g := gName 2) (tt := tYes) rfl scall_rings.nd rfl rfl (sw_true rfl rfl rfl (by decide +kernel)) (pi_range1 (by rfl) T.b_range (pa_cons (pe_callB (r := rLenQ K) call_lenQ (by rfl) T.b_len PySem.boot_len (pa_cons (pv 0) pa_nil)) pa_nil))
      (blkOk_by (own := [("block", 2)]) (N := ["leads", "paths", "block", "path"]) (sc := defScope sall_rings) (by decide +kernel)) (fun _ _ _ _ _ => (pg_name (i := 2) scall_rings.nd rfl (.inl rfl))) (fun _ _ _ _ _ => pts_nil)
      (fun _ _ _ _ _ => (pe_call Gfollowed hr (by rfl) Dfollowed.g Dfollowed.F.kp Dfollowed.b .nil pass0 (pa_cons (pv 0) (pa_cons (pv 2) pa_nil)))))
    (pss_one (ps_ret (pe_lc (own := [("path", 3)]) (g := gName 3) (tt := _) rfl scall_rings.nd (pi_list (pv 1))
      (blkOk_by (own := [("path", 3)]) (N := ["leads", "paths", "block", "path"]) (sc := defScope sall_rings) (by decide +kernel)) (fun _ _ _ _ _ => (pg_name (i := 3) scall_rings.nd rfl (.inl rfl))) (fun _ _ _ _ _ => pts_one (PW.pt (pw_and (pt_cmpR op_gt (pe_callB (r := rLenQ K) call_lenQ (by rfl) T.b_len PySem.boot_len (pa_cons (pv 3) pa_nil)) pe_int (nomark _)) (pw_and (pt_cmpR op_eq (pe_ix (r := rIxT K) ix_tup (pv 0) (pe_ix (r := rIxT K) ix_tup (pv 3) (pe_un un_neg pe_int) (fun _ _ => rfl)) (fun _ _ => rfl)) (pe_ix (r := rIxT K) ix_tup (pv 3) pe_int (fun _ _ => rfl)) (nomark _)) (pw_and1 (pt_cmpR op_eq (pe_ix (r := rIxT K) ix_tup (pv 3) pe_int (fun _ _ => rfl)) (pe_callB (r := rMinT) (cr_minT rfl (by exact hr.units)) (by rfl) T.b_min (by decide +kernel) (pa_cons (pv 3) pa_nil)) (nomark _)))))))
      (fun _ _ _ _ _ => (pv 3)))))), ?_⟩
    walk_at "rx"
    rw [show (((((ldL es fs).map V.int).length : Nat) : Int)).toNat = es.length by rw [ll]; omega]
    refine lc_acc2 walk_rng (fun i acc H' => ∃ bs, acc = bs.map V.ref ∧ NRows H' bs ((List.range i).map (Fo es fs))) ⟨[], rfl, TupsAt.nil⟩ (fun i acc Ha Hb k pp => by obtain ⟨bs, e1, e2⟩ := pp; exact ⟨bs, e1, e2.kt k⟩) (fun i acc H' hi pp => by
      obtain ⟨bs, rfl, e2⟩ := pp
      have := NRows.len e2
      rw [List.length_map, List.length_range] at this
      rw [List.length_map]
      omega) (fun _ _ => trivial) ?_ ?_
    · rintro i x Hx Hy acc Qc R2 hi Sx ⟨bs, rfl, tb⟩ ⟨rfl, rfl⟩ qc rc
      have hlx := Sx _ _ hl
      walk_at "rx"
      refine ⟨rfl, ?_⟩
      walk_at "rx"
      refine ⟨l, es, fs, i, rfl, hlx, R, l12, hi, fun H3 p S3 hp => ?_⟩
      refine qc _ _ S3 ⟨bs ++ [p], by rw [List.map_append]; rfl, ?_⟩
      rw [List.range_succ, List.map_append]
      exact NRows.snoc (TupsAt.same S3 tb) hp
    · rintro H3 D acc S nD hD ⟨bs, rfl, tb⟩
      have lb : bs.length = es.length := by
        have := NRows.len tb
        rw [List.length_map, List.length_range] at this
        exact this
      have hl3 := S _ _ hl
      walk_at "rx"
      refine lc_acc2 (walk_list (xs := bs.map V.ref)) (fun i acc H' => ∃ cs, acc = cs.map V.ref ∧ NRows H' cs ((tops es fs i).map (Fo es fs))) ⟨[], rfl, TupsAt.nil⟩ (fun i acc Ha Hb k pp => by obtain ⟨bs, e1, e2⟩ := pp; exact ⟨bs, e1, e2.kt k⟩) (fun i acc H' hi pp => by
        obtain ⟨cs, rfl, e2⟩ := pp
        have := NRows.len e2
        have l2 := List.length_filter_le (fun b => decide (IsR (G es fs) (Fo es fs b))) (List.range i)
        rw [List.length_range] at l2
        rw [List.length_map] at this
        unfold tops at this
        rw [List.length_map] at hi ⊢
        omega) (fun H' S => SqL.of (S _ _ hD)) ?_ ?_
      · rintro i x Hx Hy acc Qc R2 hi Sx ⟨cs, rfl, tc⟩ ⟨rfl, ex⟩ qc rc
        rw [List.length_map] at hi
        have hi2 : i < es.length := by omega
        have ew : ((List.range es.length).map (Fo es fs))[i]? = some (Fo es fs i) := by
          rw [List.getElem?_map, List.getElem?_range hi2]
          rfl
        obtain ⟨b, e1, e2⟩ := NRows.at (TupsAt.same Sx tb) ew
        rw [List.getElem?_map, e1] at ex
        cases ex
        have hlx := Sx _ _ hl3
        obtain ⟨P, _⟩ := fo_p R hi2
        have la := nvs_last P.ne
        have lle := P.lt _ (last_mem P.ne)
        have ga := ldL_at (es := es) (fs := fs) (b := (Fo es fs i).getLastD 0) (by omega)
        have h0 : atI (nvs (Fo es fs i)) (0 : Int) = some (V.int (i : Int)) := nvs_atI (i := 0) P.hd
        have hd := P.headD
        have nx : tops es fs (i + 1) = tops es fs i ++ if IsR (G es fs) (Fo es fs i) then [i] else [] := by
          unfold tops
          rw [List.range_succ, List.filter_append]
          congr 1
          by_cases z : IsR (G es fs) (Fo es fs i)
          · rw [if_pos z, List.filter_cons_of_pos (by rw [decide_eq_true z])]; rfl
          · rw [if_neg z, List.filter_cons_of_neg (by rw [decide_eq_false z]; decide)]; rfl
        have no : ¬ IsR (G es fs) (Fo es fs i) → R2 Hy := fun k => rc Hy (Same.refl _) ⟨cs, rfl, by rw [nx, if_neg k, List.append_nil]; exact tc⟩
        walk_at "rx"
        refine ⟨rfl, ?_⟩
        walk_at "rx"
        by_cases z1 : 1 < (Fo es fs i).length
        · rw [decide_eq_true (show (1 : Int) < (((nvs (Fo es fs i)).length : Nat) : Int) by rw [nvs_len]; omega)]
          walk_at "rx"
          by_cases n : fs.getD ((Fo es fs i).getLastD 0) 0 = -1
          · rw [if_pos n] at ga ⊢
            rw [decide_eq_false (show ¬ V.int (-1) = V.int (i : Int) from fun w => by have := V.int.inj w; omega)]
            walk_at "rx"
            exact no fun k => (rg_end R hi2 k).2.1 n
          · rw [if_neg n] at ga ⊢
            by_cases z2 : G es fs ((Fo es fs i).getLastD 0) = i
            · rw [decide_eq_true (show V.int ((G es fs ((Fo es fs i).getLastD 0) : Nat) : Int) = V.int (i : Int) from by rw [z2])]
              walk_at "rx"
              refine rd_minT (ns := niz (Fo es fs i)) e2 (by rw [niz_len]; omega) fun m hm hle => ?_
              obtain ⟨x, rfl, hx⟩ := niz_of hm
              walk_at "rx"
              by_cases z3 : i = x
              · rw [decide_eq_true (show V.int (i : Int) = V.int (x : Int) from by rw [z3])]
                walk_at "rx"
                refine qc _ _ (Same.refl _) ⟨cs ++ [b], by rw [List.map_append]; rfl, ?_⟩
                rw [nx, if_pos ⟨z1, by rw [hd]; exact z2, fun y hy => by
                  rw [hd, z3]
                  have := hle _ (mem_niz.mpr hy)
                  omega⟩, List.map_append]
                exact tc.snoc e2
              · rw [decide_eq_false (show ¬ V.int (i : Int) = V.int (x : Int) from fun w => z3 (by have := V.int.inj w; omega))]
                walk_at "rx"
                refine no fun k => z3 ?_
                have k1 := k.2.2 x hx
                rw [hd] at k1
                have k2 := hle _ (mem_niz.mpr (List.mem_of_getElem? P.hd))
                omega
            · rw [decide_eq_false (show ¬ V.int ((G es fs ((Fo es fs i).getLastD 0) : Nat) : Int) = V.int (i : Int) from fun w => z2 (by have := V.int.inj w; omega))]
              walk_at "rx"
              exact no fun k => z2 (by have := k.2.1; rw [hd] at this; exact this)
        · rw [decide_eq_false (show ¬ (1 : Int) < (((nvs (Fo es fs i)).length : Nat) : Int) by rw [nvs_len]; omega)]
          walk_at "rx"
          exact no fun k => z1 k.1
      · rintro H4 D4 acc S4 nD4 hD4 ⟨cs, rfl, tc⟩
        rw [List.length_map, lb] at tc
        walk_at "rx"
        exact q H4 D4 cs (S.trans S4) hD4 tc (S.free nD4)
def sp_leads (K : PySem.W.Frag) : Sp := fun vs H Q E => ∃ (v1 v2 : V), vs = [v1, v2] ∧ PairS K H v1 v2 E fun _ _ es fs => ∀ H' p, Same H H' → H' p = some (.tup ((ldL es fs).map V.int)) → Q (.ref p) H'
set_option maxHeartbeats 4000000 in
theorem ok_leads (T : Top K mg) {f : Addr} {fd : FuncData} (D : Def K mg "_leads" s_leads ["before", "after"] f fd) : FnOk P w K mg base (L2.CX P w) 5 f fd ["before", "after"] (sp_leads K) := by
  obtain ⟨fcheck_renaming, fdcheck_renaming, Dcheck_renaming⟩ := T.d_check_renaming
  have Gcheck_renaming : FnOk P w K mg base (L2.CX P w) 4 fcheck_renaming fdcheck_renaming ["before", "after"] (spcheck_renaming K) := okcheck_renaming T Dcheck_renaming
  refine D.F.okX sc_leads (fun vs H Q E h => ?_) (fun cdv A outer s H vs Q E hr h => ?_)
  · obtain ⟨v1, v2, rfl, _⟩ := h
    rfl
  · obtain ⟨v1, v2, rfl, hc⟩ := h
    refine ⟨_, (pss_cons (ps_expr (pe_callS Gcheck_renaming hr (by rfl) Dcheck_renaming.g Dcheck_renaming.F.kp Dcheck_renaming.b (fun σ => passAt (takes_of rfl rfl rfl rfl) σ) (pa_cons (pv 0) (pa_cons (pv 1) pa_nil))))
    (pss_one (ps_ret (pe_callTy (r := rTupQ K) call_tupQ (by rfl) T.b_tuple (by decide +kernel) (pa_cons (pe_lc (own := [("entry", 2)]) (g := gName 2) (tt := tYes) rfl sc_leads.nd (pi_tup (pv 1))
      (blkOk_by (own := [("entry", 2)]) (N := ["before", "after", "entry"]) (sc := defScope s_leads) (by decide +kernel)) (fun _ _ _ _ _ => (pg_name (i := 2) sc_leads.nd rfl (.inl rfl))) (fun _ _ _ _ _ => pts_nil)
      (fun _ _ _ _ _ => (pe_ifExp (pt_cmpR op_eq (pv 2) (Rv.pe_k (by rfl) T.k_EMPTY) (nomark _)) (Rv.pe_k (by rfl) T.k_EMPTY) (pe_tix (pv 0) (pv 2))))) pa_nil))))), ?_⟩
    walk_at "rx"
    refine ⟨v1, v2, rfl, ?_⟩
    rcases hc with ⟨a, b, es, fs, rfl, rfl, r, q⟩ | hc
    · refine .inl ⟨a, b, es, fs, rfl, rfl, r, fun H1 S1 => ?_⟩
      have r1 := r.same S1
      have e12 := r.ia.2.1
      have f12 := r.ib.2.1
      have hb1 := r1.tb
      walk_at "rx"
      refine lc_map (walk_tup (xs := fs.map V.int)) ((ldL es fs).map V.int) (by rw [List.length_map, List.length_map]; exact ldL_len es fs) (by rw [List.length_map]; omega) (fun H' S => (hb1.same S).sq) ?_ ?_
      · rintro i x Hx Hy Qc R hi Sx ⟨rfl, ex⟩ qc
        have hi2 : i < fs.length := by rw [List.length_map] at hi; exact hi
        rw [List.getElem?_map, get_at hi2] at ex
        cases ex
        have ga := r1.ga.same Sx
        have il : ((ldL es fs).map V.int)[i]? = some (V.int (if fs.getD i 0 = -1 then -1 else ((es.idxOf (fs.getD i 0) : Nat) : Int))) := by
          unfold ldL
          rw [List.getElem?_map, List.getElem?_map, get_at hi2]
          rfl
        walk_at "rx"
        refine ⟨rfl, ?_⟩
        walk_at "rx"
        by_cases z : fs.getD i 0 = -1
        · rw [decide_eq_true (show V.int (fs.getD i 0) = V.int (-1) from by rw [z])]
          walk_at "rx"
          rw [if_pos z] at il
          exact qc _ _ (Same.refl _) il
        · rw [decide_eq_false (show ¬ V.int (fs.getD i 0) = V.int (-1) from fun w => z (V.int.inj w))]
          walk_at "rx"
          rw [if_neg z] at il
          refine rd_tixI rfl rfl ga (r.rn.pm.mem_iff.mpr (mem_at hi2)) ?_
          exact qc _ _ (Same.refl _) il
      · intro H2 D S2 nD hD
        walk_at "rx"
        refine rd_newL fun H3 p S3 np hp => q H3 p ((S1.trans S2).trans S3) hp
    · exact .inr hc
def springs (K : PySem.W.Frag) : Sp := fun vs H Q E => ∃ (v1 v2 : V), vs = [v1, v2] ∧ PairS K H v1 v2 E fun _ _ es fs => ∀ H' l bs, Same H H' → H' l = some (.lst (bs.map V.ref)) → NRows H' bs ((tops es fs es.length).map (Fo es fs)) → H l = none → Q (.ref l) H'
set_option maxHeartbeats 4000000 in
theorem okrings (T : Top K mg) {f : Addr} {fd : FuncData} (D : Def K mg "rings" srings ["before", "after"] f fd) : FnOk P w K mg base (L2.CX P w) 6 f fd ["before", "after"] (springs K) := by
  obtain ⟨fall_rings, fdall_rings, Dall_rings⟩ := T.d_all_rings
  have Gall_rings : FnOk P w K mg base CX0 2 fall_rings fdall_rings ["leads"] (spall_rings K) := okall_rings T Dall_rings
  obtain ⟨f_leads, fd_leads, D_leads⟩ := T.d__leads
  have G_leads : FnOk P w K mg base (L2.CX P w) 5 f_leads fd_leads ["before", "after"] (sp_leads K) := ok_leads T D_leads
  refine D.F.okX scrings (fun vs H Q E h => ?_) (fun cdv A outer s H vs Q E hr h => ?_)
  · obtain ⟨v1, v2, rfl, _⟩ := h
    rfl
  · obtain ⟨v1, v2, rfl, hc⟩ := h
    refine ⟨_, (pss_one (ps_ret (pe_call Gall_rings (hr.mono (by decide)) (by rfl) Dall_rings.g Dall_rings.F.kp Dall_rings.b .nil pass0 (pa_cons (pe_callS G_leads hr (by rfl) D_leads.g D_leads.F.kp D_leads.b (fun σ => passAt (takes_of rfl rfl rfl rfl) σ) (pa_cons (pv 0) (pa_cons (pv 1) pa_nil))) pa_nil)))), ?_⟩
    walk_at "rx"
    refine ⟨v1, v2, rfl, ?_⟩
    rcases hc with ⟨a, b, es, fs, rfl, rfl, r, q⟩ | hc
    · refine .inl ⟨a, b, es, fs, rfl, rfl, r, fun H1 ld S1 hld => ?_⟩
      walk_at "rx"
      exact ⟨ld, es, fs, rfl, hld, r.rn, r.ia.2.1, fun H2 l bs S2 h2 t2 n2 => q H2 l bs (S1.trans S2) h2 t2 (S1.free n2)⟩
    · exact .inr hc
def sp_is_crowded (_K : PySem.W.Frag) : Sp := fun vs H Q _ => ∃ (a b : Addr) (es fs : List Int), vs = [.ref a, .ref b] ∧ RP H a b es fs ∧ ∀ H', Same H H' → Q (.bl (decide (crowd es fs))) H'
set_option maxHeartbeats 4000000 in
theorem ok_is_crowded (T : Top K mg) {f : Addr} {fd : FuncData} (D : Def K mg "_is_crowded" s_is_crowded ["before", "after"] f fd) : FnOk P w K mg base CX0 7 f fd ["before", "after"] (sp_is_crowded K) := by
  obtain ⟨frings, fdrings, Drings⟩ := T.d_rings
  have Grings : FnOk P w K mg base (L2.CX P w) 6 frings fdrings ["before", "after"] (springs K) := okrings T Drings
  refine D.F.ok sc_is_crowded (fun vs H Q E h => ?_) (fun cdv A outer s H vs Q E hr h => ?_)
  · obtain ⟨a, b, es, fs, rfl, _⟩ := h
    rfl
  · obtain ⟨a, b, es, fs, rfl, r, q⟩ := h
    refine ⟨_, (pss_one (ps_ret (pe_and (pe_cmpR op_eq (pe_tcnt hr.units (pv 0) (Rv.pe_k (by rfl) T.k_EMPTY)) pe_int (nomark _)) (pe_one (pe_cmpR op_gt (pe_callB (r := rLenQ K) call_lenQ (by rfl) T.b_len PySem.boot_len (pa_cons (pe_call Grings hr (by rfl) Drings.g Drings.F.kp Drings.b .nil passL (pa_cons (pv 0) (pa_cons (pv 1) pa_nil))) pa_nil)) pe_int (nomark _)))))), ?_⟩
    walk_at "rx"
    refine rd_tcC rfl r.ga ?_
    walk_at "rx"
    by_cases z : es.count (-1) = 1
    · rw [decide_eq_true (show V.int ((es.count (-1) : Nat) : Int) = V.int 1 by rw [z]; rfl)]
      walk_at "rx"
      refine ⟨_, _, rfl, .inl ⟨a, b, es, fs, rfl, rfl, r, fun H1 l bs S1 hl tb _ => ?_⟩⟩
      have lb := NRows.len tb
      have ls2 : (tops es fs es.length).length ≤ es.length := by
        have := List.length_filter_le (fun b => decide (IsR (G es fs) (Fo es fs b))) (List.range es.length)
        rw [List.length_range] at this
        exact this
      have e12 := r.ia.2.1
      rw [List.length_map] at lb
      walk_at "rx"
      have := q _ S1
      have e : decide ((0 : Int) < (((bs.map V.ref).length : Nat) : Int)) = decide (crowd es fs) := by
        rw [decide_eq_decide, List.length_map, lb]
        unfold crowd rngs
        refine ⟨fun h => ⟨z, fun k => ?_⟩, fun h => ?_⟩
        · rw [List.map_eq_nil_iff.mp k] at h
          exact absurd h (by decide)
        · have : (tops es fs es.length).length ≠ 0 := fun k => h.2 (by rw [List.length_eq_zero_iff.mp k]; rfl)
          omega
      rw [e]
      exact this
    · rw [decide_eq_false (show ¬ V.int ((es.count (-1) : Nat) : Int) = V.int 1 from fun w => z (by have := V.int.inj w; omega))]
      walk_at "rx"
      have := q _ (Same.refl _)
      rw [decide_eq_false (fun w => z w.1)] at this
      exact this
def spobstacle (K : PySem.W.Frag) : Sp := fun vs H Q E => ∃ (v1 v2 : V), vs = [v1, v2] ∧ PairS K H v1 v2 E fun _ _ es fs => ObQ K H Q E es fs
set_option maxHeartbeats 4000000 in
theorem okobstacle (T : Top K mg) {f : Addr} {fd : FuncData} (D : Def K mg "obstacle" sobstacle ["before", "after"] f fd) : FnOk P w K mg base (L2.CX P w) 8 f fd ["before", "after"] (spobstacle K) := by
  obtain ⟨fE_Undecided, fdE_Undecided, ET_Undecided, FE_Undecided, bE_Undecided⟩ := T.e_Undecided
  have GI_Undecided := okInit_Undecided (P := P) (w := w) (base := base) ET_Undecided FE_Undecided
  obtain ⟨fcheck_renaming, fdcheck_renaming, Dcheck_renaming⟩ := T.d_check_renaming
  have Gcheck_renaming : FnOk P w K mg base (L2.CX P w) 4 fcheck_renaming fdcheck_renaming ["before", "after"] (spcheck_renaming K) := okcheck_renaming T Dcheck_renaming
  obtain ⟨f_is_of_one_kind, fd_is_of_one_kind, D_is_of_one_kind⟩ := T.d__is_of_one_kind
  have G_is_of_one_kind : FnOk P w K mg base CX0 5 f_is_of_one_kind fd_is_of_one_kind ["image"] (sp_is_of_one_kind K) := ok_is_of_one_kind T D_is_of_one_kind
  obtain ⟨flook, fdlook, Dlook⟩ := T.d_look
  have Glook : FnOk P w K mg base CX0 4 flook fdlook ["image"] (splook K) := oklook T Dlook
  obtain ⟨f_is_crowded, fd_is_crowded, D_is_crowded⟩ := T.d__is_crowded
  have G_is_crowded : FnOk P w K mg base CX0 7 f_is_crowded fd_is_crowded ["before", "after"] (sp_is_crowded K) := ok_is_crowded T D_is_crowded
  obtain ⟨frings, fdrings, Drings⟩ := T.d_rings
  have Grings : FnOk P w K mg base (L2.CX P w) 6 frings fdrings ["before", "after"] (springs K) := okrings T Drings
  refine D.F.okX scobstacle (fun vs H Q E h => ?_) (fun cdv A outer s H vs Q E hr h => ?_)
  · obtain ⟨v1, v2, rfl, _⟩ := h
    rfl
  · obtain ⟨v1, v2, rfl, hc⟩ := h
    refine ⟨_, (pss_cons (ps_expr (pe_callS Gcheck_renaming (hr.mono (by decide)) (by rfl) Dcheck_renaming.g Dcheck_renaming.F.kp Dcheck_renaming.b (fun σ => passAt (takes_of rfl rfl rfl rfl) σ) (pa_cons (pv 0) (pa_cons (pv 1) pa_nil))))
    (pss_cons (ps_if (pt_cmpR (op_eqD hr.units) (pv 0) (pv 1) (nomark _)) (pss_one (ps_ret pe_non)) pss_nil)
    (pss_cons (ps_if (pt_cmpR (r := rIn K true) op_notIn_seq (Rv.pe_k (by rfl) T.k_EMPTY) (pv 0) (by rfl)) (pss_one (ps_ret (pe_tup (pa_cons pe_str pa_nil)))) pss_nil)
    (pss_cons (ps_if (pt_cmpR op_eq (pe_call Glook (hr.mono (by decide)) (by rfl) Dlook.g Dlook.F.kp Dlook.b .nil pass0 (pa_cons (pv 0) pa_nil)) (pe_call Glook (hr.mono (by decide)) (by rfl) Dlook.g Dlook.F.kp Dlook.b .nil pass0 (pa_cons (pv 1) pa_nil)) (nomark _)) (pss_one (ps_ret (pe_tup (pa_cons pe_str pa_nil)))) pss_nil)
    (pss_cons (ps_if (pt_not (pt_val (pe_call G_is_crowded hr (by rfl) D_is_crowded.g D_is_crowded.F.kp D_is_crowded.b .nil pass0 (pa_cons (pv 0) (pa_cons (pv 1) pa_nil))))) (pss_one (ps_ret pe_non)) pss_nil)
    (pss_cons (ps_set (i := 2) scobstacle.nd rfl (.inl rfl) (pe_callTy (r := rTupQ K) call_tupQ (by rfl) T.b_tuple (by decide +kernel) (pa_cons (pe_callS Grings (hr.mono (by decide)) (by rfl) Drings.g Drings.F.kp Drings.b (fun σ => passAt (takes_of rfl rfl rfl rfl) σ) (pa_cons (pv 0) (pa_cons (pv 1) pa_nil))) pa_nil)))
    (pss_cons (ps_if (pt_val (pe_call G_is_of_one_kind (hr.mono (by decide)) (by rfl) D_is_of_one_kind.g D_is_of_one_kind.F.kp D_is_of_one_kind.b .nil pass0 (pa_cons (pv 0) pa_nil))) (pss_one (ps_ret (pe_tup (pa_cons pe_str (pa_cons (pv 2) pa_nil))))) pss_nil)
    (pss_one (ps_raiseQ rfl (takes_of rfl rfl rfl rfl) (pmk_oex ET_Undecided.ox ET_Undecided.iC ET_Undecided.tI GI_Undecided (hr.mono (by decide)) bE_Undecided .nil pass0 (by rfl) ET_Undecided.gC (pa_cons (pv 2) pa_nil))))))))))), ?_⟩
    walk_at "rx"
    refine ⟨v1, v2, rfl, ?_⟩
    rcases hc with ⟨a, b, es, fs, rfl, rfl, r, q⟩ | hc
    · refine .inl ⟨a, b, es, fs, rfl, rfl, r, fun H1 S1 => ?_⟩
      have r1 := r.same S1
      walk_at "rx"
      refine rd_eqI r1.ta r1.tb ?_
      by_cases e0 : es = fs
      · rw [decide_eq_true e0]
        walk_at "rx"
        exact q.q0 (if_pos e0) _ S1
      · rw [decide_eq_false e0]
        walk_at "rx"
        refine rd_ninO r1.ta rfl ?_
        rw [inV_ints]
        by_cases e1 : (-1 : Int) ∈ es
        · rw [decide_eq_true e1]
          walk_at "rx"
          refine ⟨a, es, rfl, r1.ta, r1.ia, fun H2 S2 => ?_⟩
          have r2 := r1.same S2
          walk_at "rx"
          refine ⟨b, fs, rfl, r2.tb, r2.ib, fun H3 S3 => ?_⟩
          have r3 := r2.same S3
          have S13 := (S1.trans S2).trans S3
          walk_at "rx"
          by_cases e2 : codes es = codes fs
          · rw [decide_eq_true (show V.str (txt (codes es)) = V.str (txt (codes fs)) by rw [e2])]
            walk_at "rx"
            refine rd_newQ (by simp) fun H4 p S4 nP hP => ?_
            exact q.q1 2 (by unfold vdt; rw [if_neg e0, if_neg (fun w => w e1), if_pos e2]) (by decide) (by decide) _ _ (S13.trans S4) (.inr (.inl ⟨rfl, hP⟩))
          · rw [decide_eq_false (show ¬ V.str (txt (codes es)) = V.str (txt (codes fs)) from fun w => e2 (txt_inj (V.str.inj w)))]
            walk_at "rx"
            refine ⟨a, b, es, fs, rfl, r3, fun H4 S4 => ?_⟩
            have r4 := r3.same S4
            have S14 := S13.trans S4
            walk_at "rx"
            by_cases e3 : crowd es fs
            · rw [decide_eq_true e3]
              walk_at "rx"
              refine ⟨_, _, rfl, .inl ⟨a, b, es, fs, rfl, rfl, r4, fun H5 l bs S5 hl tb _ => ?_⟩⟩
              have r5 := r4.same S5
              walk_at "rx"
              refine rd_newL fun H6 t S6 nT hT => ?_
              have r6 := r5.same S6
              have tb6 := TupsAt.same S6 tb
              have S16 := (S14.trans S5).trans S6
              walk_at "rx"
              refine ⟨a, es, rfl, r6.ta, r6.ia, fun H7 S7 => ?_⟩
              have hT7 := S7 _ _ hT
              have tb7 := TupsAt.same S7 tb6
              have S17 := S16.trans S7
              walk_at "rx"
              by_cases e4 : mono es
              · rw [decide_eq_true e4]
                walk_at "rx"
                refine rd_newQ (by simp) fun H8 p S8 nP hP => ?_
                exact q.q1 3 (by unfold vdt; rw [if_neg e0, if_neg (fun w => w e1), if_neg e2, if_neg (fun w => w e3), if_pos e4]) (by decide) (by decide) _ _ (S17.trans S8) (.inr (.inr ⟨rfl, t, bs, hP, S8 _ _ hT7, TupsAt.same S8 tb7⟩))
              · rw [decide_eq_false e4]
                walk_at "rx"
                exact mkErr fun H8 d S8 hd => q.q4 (by unfold vdt; rw [if_neg e0, if_neg (fun w => w e1), if_neg e2, if_neg (fun w => w e3), if_neg e4]) H8 d t bs (S17.trans S8) hd (S8 _ _ hT7) (TupsAt.same S8 tb7)
            · rw [decide_eq_false e3]
              walk_at "rx"
              exact q.q0 (by unfold vdt; rw [if_neg e0, if_neg (fun w => w e1), if_neg e2, if_pos e3]) _ S14
        · rw [decide_eq_false e1]
          walk_at "rx"
          refine rd_newQ (by simp) fun H4 p S4 nP hP => ?_
          exact q.q1 1 (by unfold vdt; rw [if_neg e0, if_pos e1]) (by decide) (by decide) _ _ (S1.trans S4) (.inl ⟨rfl, hP⟩)
    · exact .inr hc
def sp_law_world_holds (_K : PySem.W.Frag) : Sp := fun vs H Q _ => ∃ (B : Box), vs = [.ref B.b] ∧ IsBk B ∧ B.I H ∧ ∀ H', Wg B H H' → Q (.bl true) H'
set_option maxHeartbeats 4000000 in
theorem ok_law_world_holds (T : Top K mg) {f : Addr} {fd : FuncData} (D : Def K mg "_law_world_holds" s_law_world_holds ["box"] f fd) : FnOk P w K mg base CX0 9 f fd ["box"] (sp_law_world_holds K) := by
  obtain ⟨f_law_values, fd_law_values, D_law_values⟩ := T.d__law_values
  have G_law_values : FnOk P w K mg base CX0 2 f_law_values fd_law_values ["box", "many"] (sp_law_values K) := ok_law_values T D_law_values
  obtain ⟨f_law_laid, fd_law_laid, D_law_laid⟩ := T.d__law_laid
  have G_law_laid : FnOk P w K mg base CX0 2 f_law_laid fd_law_laid ["box", "blocks", "values"] (sp_law_laid K) := ok_law_laid T D_law_laid
  obtain ⟨f_law_arranged, fd_law_arranged, D_law_arranged⟩ := T.d__law_arranged
  have G_law_arranged : FnOk P w K mg base CX0 1 f_law_arranged fd_law_arranged ["blocks", "values"] (sp_law_arranged K) := ok_law_arranged T D_law_arranged
  obtain ⟨fcount_goals, fdcount_goals, Dcount_goals⟩ := T.d_count_goals
  have Gcount_goals : FnOk P w K mg base CX0 1 fcount_goals fdcount_goals ["blocks", "values"] (spcount_goals K) := okcount_goals T Dcount_goals
  obtain ⟨f_law_take, fd_law_take, D_law_take⟩ := T.d__law_take
  have G_law_take : FnOk P w K mg base CX0 1 f_law_take fd_law_take ["box", "limit"] (sp_law_take K) := ok_law_take T D_law_take
  obtain ⟨f_law_reason, fd_law_reason, D_law_reason⟩ := T.d__law_reason
  have G_law_reason : FnOk P w K mg base CX0 3 f_law_reason fd_law_reason ["before", "after"] (sp_law_reason K) := ok_law_reason T D_law_reason
  obtain ⟨f_law_reached, fd_law_reached, D_law_reached⟩ := T.d__law_reached
  have G_law_reached : FnOk P w K mg base CX0 3 f_law_reached fd_law_reached ["image"] (sp_law_reached K) := ok_law_reached T D_law_reached
  obtain ⟨f_law_same_reason, fd_law_same_reason, D_law_same_reason⟩ := T.d__law_same_reason
  have G_law_same_reason : FnOk P w K mg base CX0 2 f_law_same_reason fd_law_same_reason ["told", "due"] (sp_law_same_reason K) := ok_law_same_reason T D_law_same_reason
  obtain ⟨f_law_number, fd_law_number, D_law_number⟩ := T.d__law_number
  have G_law_number : FnOk P w K mg base CX0 1 f_law_number fd_law_number ["told"] (sp_law_number K) := ok_law_number T D_law_number
  obtain ⟨fobstacle, fdobstacle, Dobstacle⟩ := T.d_obstacle
  have Gobstacle : FnOk P w K mg base (L2.CX P w) 8 fobstacle fdobstacle ["before", "after"] (spobstacle K) := okobstacle T Dobstacle
  refine D.F.ok sc_law_world_holds (fun vs H Q E h => ?_) (fun cdv A outer s H vs Q E hr h => ?_)
  · obtain ⟨B, rfl, _⟩ := h
    rfl
  · obtain ⟨B, rfl, hB, i0, q⟩ := h
    refine ⟨_, (pss_cons (ps_set (i := 1) sc_law_world_holds.nd rfl (.inl rfl) (pe_op op_add pe_int (pe_call G_law_take (hr.mono (by decide)) (by rfl) D_law_take.g D_law_take.F.kp D_law_take.b .nil pass0 (pa_cons (pv 0) (pa_cons pe_int pa_nil)))))
    (pss_cons (ps_set (i := 2) sc_law_world_holds.nd rfl (.inl rfl) (pe_call G_law_values (hr.mono (by decide)) (by rfl) D_law_values.g D_law_values.F.kp D_law_values.b .nil pass0 (pa_cons (pv 0) (pa_cons (pe_call G_law_take (hr.mono (by decide)) (by rfl) D_law_take.g D_law_take.F.kp D_law_take.b .nil pass0 (pa_cons (pv 0) (pa_cons (pe_op op_add (pv 1) pe_int) pa_nil))) pa_nil))))
    (pss_cons (ps_set (i := 3) sc_law_world_holds.nd rfl (.inl rfl) (pe_call G_law_laid (hr.mono (by decide)) (by rfl) D_law_laid.g D_law_laid.F.kp D_law_laid.b .nil pass0 (pa_cons (pv 0) (pa_cons (pv 1) (pa_cons (pv 2) pa_nil)))))
    (pss_cons (ps_set (i := 4) sc_law_world_holds.nd rfl (.inl rfl) pe_int)
    (pss_cons (ps_for PassesOwn.never rfl (pi_list (pe_call G_law_arranged (hr.mono (by decide)) (by rfl) D_law_arranged.g D_law_arranged.F.kp D_law_arranged.b .nil pass0 (pa_cons (pv 1) (pa_cons (pv 2) pa_nil)))) (pg_name (i := 5) sc_law_world_holds.nd rfl (.inl rfl)) (pss_cons (ps_set (i := 6) sc_law_world_holds.nd rfl (.inl rfl) (pe_call G_law_reason (hr.mono (by decide)) (by rfl) D_law_reason.g D_law_reason.F.kp D_law_reason.b .nil pass0 (pa_cons (pv 3) (pa_cons (pv 5) pa_nil))))
    (pss_cons (ps_if (pt_not (pt_val (pe_call G_law_same_reason (hr.mono (by decide)) (by rfl) D_law_same_reason.g D_law_same_reason.F.kp D_law_same_reason.b .nil pass0 (pa_cons (pe_call Gobstacle hr (by rfl) Dobstacle.g Dobstacle.F.kp Dobstacle.b .nil passL (pa_cons (pv 3) (pa_cons (pv 5) pa_nil))) (pa_cons (pv 6) pa_nil))))) (pss_one (ps_ret pe_bl)) pss_nil)
    (pss_one (ps_set (i := 4) sc_law_world_holds.nd rfl (.inl rfl) (pe_op op_add (pv 4) (pe_callTy (r := rIntO) call_intO (by rfl) T.b_int (by decide +kernel) (pa_cons (pe_cmpR op_eq (pe_ix (r := rIxL K) ix_list (pv 6) pe_int (fun _ _ => rfl)) pe_int (nomark _)) pa_nil))))))))
    (pss_cons (ps_set (i := 7) sc_law_world_holds.nd rfl (.inl rfl) (pe_call Gcount_goals (hr.mono (by decide)) (by rfl) Dcount_goals.g Dcount_goals.F.kp Dcount_goals.b .nil pass0 (pa_cons (pv 1) (pa_cons (pe_callB (r := rLenQ K) call_lenQ (by rfl) T.b_len PySem.boot_len (pa_cons (pv 2) pa_nil)) pa_nil))))
    (pss_cons (ps_if (PW.pt (pw_or (pt_not (pt_val (pe_call G_law_number (hr.mono (by decide)) (by rfl) D_law_number.g D_law_number.F.kp D_law_number.b .nil pass0 (pa_cons (pv 7) pa_nil)))) (pw_or1 (pt_cmpR op_ne (pv 7) (pv 4) (nomark _))))) (pss_one (ps_ret pe_bl)) pss_nil)
    (pss_cons (ps_if (PW.pt (pw_and (pt_cmpR op_eq (pv 1) pe_int (nomark _)) (pw_and1 (pt_chain op_lt op_lt pe_int (pe_callB (r := rLenQ K) call_lenQ (by rfl) T.b_len PySem.boot_len (pa_cons (pv 2) pa_nil)) pe_int)))) (pss_one (ps_ret pe_bl)) pss_nil)
    (pss_one (ps_ret (pe_cmpR op_eq (pe_call G_law_reached (hr.mono (by decide)) (by rfl) D_law_reached.g D_law_reached.F.kp D_law_reached.b .nil pass0 (pa_cons (pv 3) pa_nil)) (pv 4) (nomark _)))))))))))), ?_⟩
    walk_at "rx"
    refine ⟨B, 5, rfl, hB, i0, by decide, by decide, fun H1 d w1 hd => ?_⟩
    walk_at "rx"
    refine ⟨B, 1 + (d : Int) + 1, rfl, hB, w1.i1, by omega, by omega, fun H2 v w2 hv => ?_⟩
    have w12 := w1.trans w2
    walk_at "rx"
    refine ⟨B, v, rfl, hB, w12.i1, by omega, fun H3 D xs kd w3 mD hD lx nd k9 rg => ?_⟩
    have w13 := w12.trans w3
    have en : 1 + (d : Int) = ((1 + d : Nat) : Int) := by omega
    walk_at "rx"
    refine ⟨B, 1 + d, D, xs, by rw [en], hB, w13.i1, mD, hD, by omega, by omega, by omega, fun H4 p es w4 ge pm => ?_⟩
    have hD4 := w4.lst mD hD
    have w14 := w13.trans w4
    have le : es.length = 1 + d := by rw [pm.length_eq, List.length_append, List.length_replicate]; omega
    have rg' : ∀ e ∈ xs, 0 ≤ e ∧ e ≤ 999 ∧ sg e = 48 + kd := fun e he => by
      have := rg e he
      exact ⟨by omega, by omega, sg_kind k9 this.1 this.2⟩
    have wd := world (es := es) (vals := xs) (kd := kd) (by omega) (by omega) nd rg' (by rw [le]; exact pm)
    rw [le, lx] at wd
    obtain ⟨cA, cB, cC⟩ := wd
    have me : ∀ e ∈ es, e = -1 ∨ e ∈ xs := fun e he => by
      rcases List.mem_append.mp (pm.mem_iff.mp he) with z | z
      · exact .inr z
      · exact .inl (List.mem_replicate.mp z).2
    have Re : Rg es := fun e he => by
      rcases me e he with z | z
      · omega
      · have := rg' e z; omega
    have I : Img es := ⟨by omega, by omega, Re⟩
    have mo : mono es := fun x hx y hy nx ny => by
      rw [(rg' x ((me x hx).resolve_left nx)).2.2, (rg' y ((me y hy).resolve_left ny)).2.2]
    have v4 : ∀ fs, vdt es fs ≠ 4 := fun fs => by
      unfold vdt
      rw [if_pos mo]
      split
      · decide
      · split
        · decide
        · split
          · decide
          · split <;> decide
    have fnd : (full es).Nodup := by
      have h := pm.filter (fun x => !decide (x = -1))
      rw [List.filter_append, List.filter_replicate, if_neg (by decide), List.append_nil] at h
      exact h.nodup_iff.mpr (nd.filter _)
    have Rn : ∀ fs ∈ arrI (1 + d) xs (1 + d), Ren es fs := fun fs hf => ⟨(cC fs hf).symm, fnd⟩
    walk_at "rx"
    refine ⟨1 + d, D, xs, by rw [en], hD4, by omega, by omega, fun H5 l as S5 hl im => ?_⟩
    have ge5 := ge.same S5
    have hD5 := S5 _ _ hD4
    walk_at "rx"
    refine fr_it (walk_list (xs := as.map V.ref)) (fun i σ H' => ∃ (y5 y6 y7 : Option V), σ = [some (.ref B.b), some (.int (1 + (d : Int))), some (.ref D), some (.ref p), some (.int ((((arrI (1 + d) xs (1 + d)).take i).countP (fun fs => decide (vdt es fs = 0)) : Nat) : Int)), y5, y6, y7] ∧ Same H5 H') ⟨_, _, _, rfl, Same.refl _⟩ (fun i σ H' _ pp => ?_) ?_ ?_
    · obtain ⟨_, _, _, _, S⟩ := pp
      exact SqL.of (S _ _ hl)
    · rintro i y σ Ha Hb hi ⟨y5, y6, y7, rfl, S⟩ ⟨eH, ex⟩
      subst eH
      rw [List.length_map] at hi
      have ea : as[i]? = some as[i] := List.getElem?_eq_getElem hi
      rw [List.getElem?_map, ea] at ex
      cases ex
      obtain ⟨x, hx⟩ : ∃ x, x = as[i] := ⟨_, rfl⟩
      rw [← hx] at ea ⊢
      have hi2 : i < (arrI (1 + d) xs (1 + d)).length := by rw [← im.1]; exact hi
      obtain ⟨f, hf⟩ : ∃ f, (arrI (1 + d) xs (1 + d))[i]? = some f := ⟨_, List.getElem?_eq_getElem hi2⟩
      have R := Rn f (List.mem_of_getElem? hf)
      have J : Img f := ⟨by rw [← R.len]; exact I.1, by rw [← R.len]; exact I.2.1, fun e he => I.2.2 e (R.pm.mem_iff.mpr he)⟩
      have rp : RP H5 p x es f := ⟨ge5, im.2 _ _ _ ea hf, I, J, R⟩
      have rb := rp.same S
      have nx : ((arrI (1 + d) xs (1 + d)).take (i + 1)).countP (fun fs => decide (vdt es fs = 0)) = ((arrI (1 + d) xs (1 + d)).take i).countP (fun fs => decide (vdt es fs = 0)) + if vdt es f = 0 then 1 else 0 := by
        rw [List.take_add_one, hf, List.countP_append]
        congr 1
        show List.countP _ [f] = _
        rw [List.countP_singleton]
        by_cases z : vdt es f = 0
        · rw [decide_eq_true z, if_pos rfl, if_pos z]
        · rw [decide_eq_false z, if_neg z]; rfl
      walk_at "rx"
      refine ⟨p, x, es, f, rfl, rb, fun Hc dd k pp Sc hdd due => ?_⟩
      walk_at "rx"
      refine ⟨.ref p, .ref x, rfl, .inl ⟨p, x, es, f, rfl, rfl, rb.same Sc, ⟨fun vz Hd Sd => ?_, fun kk ek k0 k4 Hd p2 Sd h2 => ?_, fun ez => absurd ez (v4 f)⟩⟩⟩
      · have hk : k = 0 := by
          rcases due with ⟨h, _⟩ | ⟨_, v, e, n, _⟩ | ⟨_, e, _⟩
          · exact h
          · exact absurd (e.symm.trans vz) n
          · omega
        subst hk
        walk_at "rx"
        refine ⟨.non, dd, pp, 0, es, f, rfl, Sd _ _ hdd, .inl ⟨rfl, rfl⟩, R, I.2.1, fun He Se => ?_⟩
        have hde := Se _ _ (Sd _ _ hdd)
        walk_at "rx"
        rw [decide_eq_true (show V.int ((0 : Nat) : Int) = V.int 0 from rfl)]
        refine rd_intOB ?_
        walk_at "rx"
        refine ⟨_, _, _, by rw [nx, if_pos vz]; rfl, ((S.trans Sc).trans Sd).trans Se⟩
      · obtain ⟨rfl, hp⟩ : k = 1 ∧ RsnAt Hc pp kk es f := by
          rcases due with ⟨_, h⟩ | ⟨h, v, e, n, _, h3⟩ | ⟨_, e, _⟩
          · omega
          · rw [← ek, e]; exact ⟨h, h3⟩
          · exact absurd e (v4 f)
        walk_at "rx"
        refine ⟨.ref p2, dd, pp, 1, es, f, rfl, Sd _ _ hdd, .inr ⟨by decide, p2, kk, rfl, h2, hp.same Sd⟩, R, I.2.1, fun He Se => ?_⟩
        have hde := Se _ _ (Sd _ _ hdd)
        walk_at "rx"
        rw [decide_eq_false (show ¬ V.int ((1 : Nat) : Int) = V.int 0 from fun w => by cases w)]
        refine rd_intOB ?_
        walk_at "rx"
        refine ⟨_, _, _, by rw [nx, if_neg (show ¬ vdt es f = 0 by rw [ek]; exact k0)]; rfl, ((S.trans Sc).trans Sd).trans Se⟩
    · rintro σ Ha ⟨y5, y6, y7, rfl, S⟩
      rw [List.length_map, im.1, List.take_length, cA]
      have hDa := S _ _ hD5
      have gea := (ge5.same S)
      walk_at "rx"
      refine ⟨1 + d, v, by rw [en, List.length_map, lx], by omega, by omega, fun Hb Sb => ?_⟩
      walk_at "rx"
      refine ⟨_, rfl, ?_⟩
      walk_at "rx"
      rw [decide_eq_true (show V.int ((cgN (1 + d) v : Nat) : Int) = V.int ((cgN (1 + d) v : Nat) : Int) from rfl)]
      walk_at "rx"
      by_cases a4 : d = 4
      · rw [decide_eq_true (show V.int (1 + (d : Int)) = V.int 5 by rw [a4]; rfl)]
        walk_at "rx"
        rw [show (((xs.map V.int).length : Nat) : Int) = (v : Int) by rw [List.length_map, lx]]
        by_cases v1 : 1 < v
        · rw [decide_eq_true (show (1 : Int) < (v : Int) by omega)]
          walk_at "rx"
          by_cases v4' : v < 4
          · rw [decide_eq_true (show (v : Int) < 4 by omega)]
            walk_at "rx"
            exact q _ (w14.trans (Wg.ofSame w14.i1 ((S5.trans S).trans Sb)))
          · rw [decide_eq_false (show ¬ (v : Int) < 4 by omega)]
            walk_at "rx"
            refine ⟨p, es, rfl, .inr (gea.same Sb), Re, by omega, fun He Se => ?_⟩
            walk_at "rx"
            rw [cB (by omega)]
            rw [decide_eq_true (show V.int ((cgN (1 + d) v : Nat) : Int) = V.int ((cgN (1 + d) v : Nat) : Int) from rfl)]
            exact q _ (w14.trans (Wg.ofSame w14.i1 (((S5.trans S).trans Sb).trans Se)))
        · rw [decide_eq_false (show ¬ (1 : Int) < (v : Int) by omega)]
          walk_at "rx"
          refine ⟨p, es, rfl, .inr (gea.same Sb), Re, by omega, fun He Se => ?_⟩
          walk_at "rx"
          rw [cB (by omega)]
          rw [decide_eq_true (show V.int ((cgN (1 + d) v : Nat) : Int) = V.int ((cgN (1 + d) v : Nat) : Int) from rfl)]
          exact q _ (w14.trans (Wg.ofSame w14.i1 (((S5.trans S).trans Sb).trans Se)))
      · rw [decide_eq_false (show ¬ V.int (1 + (d : Int)) = V.int 5 from fun w => by have := V.int.inj w; omega)]
        walk_at "rx"
        refine ⟨p, es, rfl, .inr (gea.same Sb), Re, by omega, fun He Se => ?_⟩
        walk_at "rx"
        rw [cB (by omega)]
        rw [decide_eq_true (show V.int ((cgN (1 + d) v : Nat) : Int) = V.int ((cgN (1 + d) v : Nat) : Int) from rfl)]
        exact q _ (w14.trans (Wg.ofSame w14.i1 (((S5.trans S).trans Sb).trans Se)))
def splaw (K : PySem.W.Frag) : Sp := fun vs H Q _ => ∃ (a : Addr) (ns : List Int), vs = [.ref a] ∧ SqL K H a (ns.map V.int) ∧ ns.length ≤ 63 ∧ ∀ H', Q (.bl true) H'
set_option maxHeartbeats 4000000 in
theorem oklaw (T : Top K mg) {f : Addr} {fd : FuncData} (D : Def K mg "law" slaw ["script"] f fd) : FnOk P w K mg base CX0 10 f fd ["script"] (splaw K) := by
  obtain ⟨f_law_box, fd_law_box, D_law_box⟩ := T.d__law_box
  have G_law_box : FnOk P w K mg base CX0 1 f_law_box fd_law_box ["script", "at"] (sp_law_box K) := ok_law_box T D_law_box
  obtain ⟨f_law_take, fd_law_take, D_law_take⟩ := T.d__law_take
  have G_law_take : FnOk P w K mg base CX0 1 f_law_take fd_law_take ["box", "limit"] (sp_law_take K) := ok_law_take T D_law_take
  obtain ⟨fcount_goals, fdcount_goals, Dcount_goals⟩ := T.d_count_goals
  have Gcount_goals : FnOk P w K mg base CX0 1 fcount_goals fdcount_goals ["blocks", "values"] (spcount_goals K) := okcount_goals T Dcount_goals
  obtain ⟨f_law_number, fd_law_number, D_law_number⟩ := T.d__law_number
  have G_law_number : FnOk P w K mg base CX0 1 f_law_number fd_law_number ["told"] (sp_law_number K) := ok_law_number T D_law_number
  obtain ⟨f_law_count, fd_law_count, D_law_count⟩ := T.d__law_count
  have G_law_count : FnOk P w K mg base CX0 1 f_law_count fd_law_count ["blocks", "values"] (sp_law_count K) := ok_law_count T D_law_count
  obtain ⟨f_law_world_holds, fd_law_world_holds, D_law_world_holds⟩ := T.d__law_world_holds
  have G_law_world_holds : FnOk P w K mg base CX0 9 f_law_world_holds fd_law_world_holds ["box"] (sp_law_world_holds K) := ok_law_world_holds T D_law_world_holds
  refine D.F.ok sclaw (fun vs H Q E h => ?_) (fun cdv A outer s H vs Q E hr h => ?_)
  · obtain ⟨a, ns, rfl, _⟩ := h
    rfl
  · obtain ⟨a, ns, rfl, hS, hl, q⟩ := h
    have keepR : ∀ {H1 H2 : Hp} {b : Addr}, H1 b = none → (∀ x o, x ≠ b → H1 x = some o → H2 x = some o) → SqL K H1 a (ns.map V.int) → SqL K H2 a (ns.map V.int) := fun {H1 H2 b} nb k h => by
      rcases h with (h | ⟨o, h⟩) | h
      · exact .inl (.inl (k _ _ (fun z => by rw [z, nb] at h; cases h) h))
      · exact .inl (.inr ⟨o, k _ _ (fun z => by rw [z, nb] at h; cases h) h⟩)
      · exact .inr h
    have keepS : ∀ {H1 H2 : Hp}, Same H1 H2 → SqL K H1 a (ns.map V.int) → SqL K H2 a (ns.map V.int) := fun S h => by
      rcases h with (h | ⟨o, h⟩) | h
      · exact .inl (.inl (S _ _ h))
      · exact .inl (.inr ⟨o, S _ _ h⟩)
      · exact .inr h
    have keepW : ∀ {H1 H2 H3 : Hp} {b : Addr}, H1 b = none → Same H1 H2 → Wg (bkL b) H2 H3 → SqL K H1 a (ns.map V.int) → SqL K H3 a (ns.map V.int) := fun nb S w h => keepR nb (fun x o ne e => w.keep x o (fun z => ne (List.mem_singleton.mp z)) (S _ _ e)) h
    refine ⟨_, (pss_cons (ps_for PassesOwn.never rfl (pi_range1 (by rfl) T.b_range (pa_cons (pe_callB (call_minQ rfl) (by rfl) T.b_min (by decide +kernel) (pa_cons pe_int (pa_cons (pe_callB (call_max2 rfl) (by rfl) T.b_max (by decide +kernel) (pa_cons pe_int (pa_cons (pe_callB (r := rLenQ K) call_lenQ (by rfl) T.b_len PySem.boot_len (pa_cons (pv 0) pa_nil)) pa_nil))) pa_nil))) pa_nil)) (pg_name (i := 1) sclaw.nd rfl (.inl rfl)) (pss_cons (ps_set (i := 2) sclaw.nd rfl (.inl rfl) (pe_call G_law_box (hr.mono (by decide)) (by rfl) D_law_box.g D_law_box.F.kp D_law_box.b .nil pass0 (pa_cons (pv 0) (pa_cons (pv 1) pa_nil))))
    (pss_cons (ps_set (i := 3) sclaw.nd rfl (.inl rfl) (pe_op op_add pe_int (pe_call G_law_take (hr.mono (by decide)) (by rfl) D_law_take.g D_law_take.F.kp D_law_take.b .nil pass0 (pa_cons (pv 2) (pa_cons pe_int pa_nil)))))
    (pss_cons (ps_set (i := 4) sclaw.nd rfl (.inl rfl) (pe_call G_law_take (hr.mono (by decide)) (by rfl) D_law_take.g D_law_take.F.kp D_law_take.b .nil pass0 (pa_cons (pv 2) (pa_cons (pe_op op_add (pv 3) pe_int) pa_nil))))
    (pss_cons (ps_set (i := 5) sclaw.nd rfl (.inl rfl) (pe_call Gcount_goals (hr.mono (by decide)) (by rfl) Dcount_goals.g Dcount_goals.F.kp Dcount_goals.b .nil pass0 (pa_cons (pv 3) (pa_cons (pv 4) pa_nil))))
    (pss_cons (ps_if (PW.pt (pw_or (pt_not (pt_val (pe_call G_law_number (hr.mono (by decide)) (by rfl) D_law_number.g D_law_number.F.kp D_law_number.b .nil pass0 (pa_cons (pv 5) pa_nil)))) (pw_or1 (pt_cmpR op_ne (pv 5) (pe_call G_law_count (hr.mono (by decide)) (by rfl) D_law_count.g D_law_count.F.kp D_law_count.b .nil pass0 (pa_cons (pv 3) (pa_cons (pv 4) pa_nil))) (nomark _))))) (pss_one (ps_ret pe_bl)) pss_nil)
    (pss_one (ps_if (PW.pt (pw_and (pt_cmpR op_lt (pv 1) pe_int (nomark _)) (pw_and1 (pt_not (pt_val (pe_call G_law_world_holds hr (by rfl) D_law_world_holds.g D_law_world_holds.F.kp D_law_world_holds.b .nil pass0 (pa_cons (pv 2) pa_nil))))))) (pss_one (ps_ret pe_bl)) pss_nil))))))))
    (pss_one (ps_ret pe_bl))), ?_⟩
    walk_at "rx"
    refine ⟨a, _, rfl, .inl hS, ?_⟩
    walk_at "rx"
    refine ⟨_, _, rfl, ?_⟩
    walk_at "rx"
    rw [List.length_map]
    obtain ⟨m, em, m63⟩ : ∃ m : Nat, (if (if ((ns.length : Nat) : Int) > 1 then ((ns.length : Nat) : Int) else 1) < 63 then (if ((ns.length : Nat) : Int) > 1 then ((ns.length : Nat) : Int) else 1) else 63) = (m : Int) ∧ m ≤ 63 := by
      by_cases k : ((ns.length : Nat) : Int) > 1
      · rw [if_pos k]
        by_cases y : ((ns.length : Nat) : Int) < 63
        · rw [if_pos y]
          exact ⟨ns.length, rfl, by omega⟩
        · rw [if_neg y]
          exact ⟨63, rfl, by decide⟩
      · rw [if_neg k]
        exact ⟨1, rfl, by decide⟩
    rw [em]
    have hr1 : -100000 ≤ (m : Int) ∧ (m : Int) ≤ 100000 := by omega
    walk_at "rx"
    rw [show ((m : Int)).toNat = m by omega]
    refine fr_rng0 (fun i σ H' => ∃ (y1 y2 y3 y4 y5 : Option V), σ = [some (.ref a), y1, y2, y3, y4, y5] ∧ SqL K H' a (ns.map V.int)) ⟨none, none, none, none, none, rfl, hS⟩ ?_ ?_
    · rintro i σ H1 hi ⟨y1, y2, y3, y4, y5, rfl, h1⟩
      walk_at "rx"
      refine ⟨a, ns, i, rfl, h1, hl, by omega, fun H2 b S2 nb i2 => ?_⟩
      have h2 := keepS S2 h1
      walk_at "rx"
      refine ⟨bkL b, 12, rfl, ⟨b, rfl⟩, i2, by decide, by decide, fun H3 d w3 hd => ?_⟩
      walk_at "rx"
      refine ⟨bkL b, 1 + (d : Int) + 1, rfl, ⟨b, rfl⟩, w3.i1, by omega, by omega, fun H4 v w4 hv => ?_⟩
      have w34 := w3.trans w4
      have h4 := keepW nb S2 w34 h1
      have en : 1 + (d : Int) = ((1 + d : Nat) : Int) := by omega
      walk_at "rx"
      refine ⟨1 + d, v, by rw [en], by omega, by omega, fun H5 S5 => ?_⟩
      walk_at "rx"
      refine ⟨_, rfl, ?_⟩
      walk_at "rx"
      refine ⟨1 + d, v, by rw [en], by omega, by omega, fun H6 S6 => ?_⟩
      walk_at "rx"
      rw [decide_eq_true (show V.int ((cgN (1 + d) v : Nat) : Int) = V.int ((cgN (1 + d) v : Nat) : Int) from rfl)]
      have S46 := S5.trans S6
      have w36 := w34.trans (Wg.ofSame w34.i1 S46)
      walk_at "rx"
      by_cases z : (i : Int) < 3
      · rw [decide_eq_true z]
        walk_at "rx"
        refine ⟨bkL b, rfl, ⟨b, rfl⟩, w36.i1, fun H7 w7 => ?_⟩
        walk_at "rx"
        exact ⟨_, _, _, _, _, rfl, keepW nb S2 (w36.trans w7) h1⟩
      · rw [decide_eq_false z]
        walk_at "rx"
        exact ⟨_, _, _, _, _, rfl, keepW nb S2 w36 h1⟩
    · rintro σ H1 ⟨y1, y2, y3, y4, y5, rfl, _⟩
      walk_at "rx"
      exact q _
end
theorem all_mk {l : PySem.W.OpenLaw} {w : World} {K : PySem.W.Frag} {h : Heap} {mg : Str → Option Value} {fa : Addr} (X : K.In h) (G : h.Ns mainGlobals mg) (hfa : mg "law" = some (.ref fa))
    {f0 : Addr} {od0 an0 : Option Addr} {sl0 : Array (Option Value)} {oc0 kV0 dc0 pm0 cd0 ct0 : Value}
    (a0 : PySem.W.nsIn K mainGlobals "check_image" = some (some (.ref f0))) (l0 : K.lookup f0 = some ⟨oc0, od0, .func (PySem.W.fnOf "check_image" "check_image" (defArgs scheck_image) (defBody scheck_image) (defScope scheck_image) .none kV0 dc0 pm0 an0 cd0 ct0), sl0⟩) (c0 : PySem.W.codeIn K cd0 "check_image" = true) (k0 : PySem.W.keepIn K (.ref f0) = true)
    {f1 : Addr} {od1 an1 : Option Addr} {sl1 : Array (Option Value)} {oc1 kV1 dc1 pm1 cd1 ct1 : Value}
    (a1 : PySem.W.nsIn K mainGlobals "look" = some (some (.ref f1))) (l1 : K.lookup f1 = some ⟨oc1, od1, .func (PySem.W.fnOf "look" "look" (defArgs slook) (defBody slook) (defScope slook) .none kV1 dc1 pm1 an1 cd1 ct1), sl1⟩) (c1 : PySem.W.codeIn K cd1 "look" = true) (k1 : PySem.W.keepIn K (.ref f1) = true)
    {f2 : Addr} {od2 an2 : Option Addr} {sl2 : Array (Option Value)} {oc2 kV2 dc2 pm2 cd2 ct2 : Value}
    (a2 : PySem.W.nsIn K mainGlobals "_sign" = some (some (.ref f2))) (l2 : K.lookup f2 = some ⟨oc2, od2, .func (PySem.W.fnOf "_sign" "_sign" (defArgs s_sign) (defBody s_sign) (defScope s_sign) .none kV2 dc2 pm2 an2 cd2 ct2), sl2⟩) (c2 : PySem.W.codeIn K cd2 "_sign" = true) (k2 : PySem.W.keepIn K (.ref f2) = true)
    {f3 : Addr} {od3 an3 : Option Addr} {sl3 : Array (Option Value)} {oc3 kV3 dc3 pm3 cd3 ct3 : Value}
    (a3 : PySem.W.nsIn K mainGlobals "followed" = some (some (.ref f3))) (l3 : K.lookup f3 = some ⟨oc3, od3, .func (PySem.W.fnOf "followed" "followed" (defArgs sfollowed) (defBody sfollowed) (defScope sfollowed) .none kV3 dc3 pm3 an3 cd3 ct3), sl3⟩) (c3 : PySem.W.codeIn K cd3 "followed" = true) (k3 : PySem.W.keepIn K (.ref f3) = true)
    {f4 : Addr} {od4 an4 : Option Addr} {sl4 : Array (Option Value)} {oc4 kV4 dc4 pm4 cd4 ct4 : Value}
    (a4 : PySem.W.nsIn K mainGlobals "all_rings" = some (some (.ref f4))) (l4 : K.lookup f4 = some ⟨oc4, od4, .func (PySem.W.fnOf "all_rings" "all_rings" (defArgs sall_rings) (defBody sall_rings) (defScope sall_rings) .none kV4 dc4 pm4 an4 cd4 ct4), sl4⟩) (c4 : PySem.W.codeIn K cd4 "all_rings" = true) (k4 : PySem.W.keepIn K (.ref f4) = true)
    {f5 : Addr} {od5 an5 : Option Addr} {sl5 : Array (Option Value)} {oc5 kV5 dc5 pm5 cd5 ct5 : Value}
    (a5 : PySem.W.nsIn K mainGlobals "check_renaming" = some (some (.ref f5))) (l5 : K.lookup f5 = some ⟨oc5, od5, .func (PySem.W.fnOf "check_renaming" "check_renaming" (defArgs scheck_renaming) (defBody scheck_renaming) (defScope scheck_renaming) .none kV5 dc5 pm5 an5 cd5 ct5), sl5⟩) (c5 : PySem.W.codeIn K cd5 "check_renaming" = true) (k5 : PySem.W.keepIn K (.ref f5) = true)
    {f6 : Addr} {od6 an6 : Option Addr} {sl6 : Array (Option Value)} {oc6 kV6 dc6 pm6 cd6 ct6 : Value}
    (a6 : PySem.W.nsIn K mainGlobals "rings" = some (some (.ref f6))) (l6 : K.lookup f6 = some ⟨oc6, od6, .func (PySem.W.fnOf "rings" "rings" (defArgs srings) (defBody srings) (defScope srings) .none kV6 dc6 pm6 an6 cd6 ct6), sl6⟩) (c6 : PySem.W.codeIn K cd6 "rings" = true) (k6 : PySem.W.keepIn K (.ref f6) = true)
    {f7 : Addr} {od7 an7 : Option Addr} {sl7 : Array (Option Value)} {oc7 kV7 dc7 pm7 cd7 ct7 : Value}
    (a7 : PySem.W.nsIn K mainGlobals "_leads" = some (some (.ref f7))) (l7 : K.lookup f7 = some ⟨oc7, od7, .func (PySem.W.fnOf "_leads" "_leads" (defArgs s_leads) (defBody s_leads) (defScope s_leads) .none kV7 dc7 pm7 an7 cd7 ct7), sl7⟩) (c7 : PySem.W.codeIn K cd7 "_leads" = true) (k7 : PySem.W.keepIn K (.ref f7) = true)
    {f8 : Addr} {od8 an8 : Option Addr} {sl8 : Array (Option Value)} {oc8 kV8 dc8 pm8 cd8 ct8 : Value}
    (a8 : PySem.W.nsIn K mainGlobals "obstacle" = some (some (.ref f8))) (l8 : K.lookup f8 = some ⟨oc8, od8, .func (PySem.W.fnOf "obstacle" "obstacle" (defArgs sobstacle) (defBody sobstacle) (defScope sobstacle) .none kV8 dc8 pm8 an8 cd8 ct8), sl8⟩) (c8 : PySem.W.codeIn K cd8 "obstacle" = true) (k8 : PySem.W.keepIn K (.ref f8) = true)
    {f9 : Addr} {od9 an9 : Option Addr} {sl9 : Array (Option Value)} {oc9 kV9 dc9 pm9 cd9 ct9 : Value}
    (a9 : PySem.W.nsIn K mainGlobals "count_goals" = some (some (.ref f9))) (l9 : K.lookup f9 = some ⟨oc9, od9, .func (PySem.W.fnOf "count_goals" "count_goals" (defArgs scount_goals) (defBody scount_goals) (defScope scount_goals) .none kV9 dc9 pm9 an9 cd9 ct9), sl9⟩) (c9 : PySem.W.codeIn K cd9 "count_goals" = true) (k9 : PySem.W.keepIn K (.ref f9) = true)
    {f10 : Addr} {od10 an10 : Option Addr} {sl10 : Array (Option Value)} {oc10 kV10 dc10 pm10 cd10 ct10 : Value}
    (a10 : PySem.W.nsIn K mainGlobals "_is_crowded" = some (some (.ref f10))) (l10 : K.lookup f10 = some ⟨oc10, od10, .func (PySem.W.fnOf "_is_crowded" "_is_crowded" (defArgs s_is_crowded) (defBody s_is_crowded) (defScope s_is_crowded) .none kV10 dc10 pm10 an10 cd10 ct10), sl10⟩) (c10 : PySem.W.codeIn K cd10 "_is_crowded" = true) (k10 : PySem.W.keepIn K (.ref f10) = true)
    {f11 : Addr} {od11 an11 : Option Addr} {sl11 : Array (Option Value)} {oc11 kV11 dc11 pm11 cd11 ct11 : Value}
    (a11 : PySem.W.nsIn K mainGlobals "_is_of_one_kind" = some (some (.ref f11))) (l11 : K.lookup f11 = some ⟨oc11, od11, .func (PySem.W.fnOf "_is_of_one_kind" "_is_of_one_kind" (defArgs s_is_of_one_kind) (defBody s_is_of_one_kind) (defScope s_is_of_one_kind) .none kV11 dc11 pm11 an11 cd11 ct11), sl11⟩) (c11 : PySem.W.codeIn K cd11 "_is_of_one_kind" = true) (k11 : PySem.W.keepIn K (.ref f11) = true)
    {f12 : Addr} {od12 an12 : Option Addr} {sl12 : Array (Option Value)} {oc12 kV12 dc12 pm12 cd12 ct12 : Value}
    (a12 : PySem.W.nsIn K mainGlobals "_law_box" = some (some (.ref f12))) (l12 : K.lookup f12 = some ⟨oc12, od12, .func (PySem.W.fnOf "_law_box" "_law_box" (defArgs s_law_box) (defBody s_law_box) (defScope s_law_box) .none kV12 dc12 pm12 an12 cd12 ct12), sl12⟩) (c12 : PySem.W.codeIn K cd12 "_law_box" = true) (k12 : PySem.W.keepIn K (.ref f12) = true)
    {f13 : Addr} {od13 an13 : Option Addr} {sl13 : Array (Option Value)} {oc13 kV13 dc13 pm13 cd13 ct13 : Value}
    (a13 : PySem.W.nsIn K mainGlobals "_law_take" = some (some (.ref f13))) (l13 : K.lookup f13 = some ⟨oc13, od13, .func (PySem.W.fnOf "_law_take" "_law_take" (defArgs s_law_take) (defBody s_law_take) (defScope s_law_take) .none kV13 dc13 pm13 an13 cd13 ct13), sl13⟩) (c13 : PySem.W.codeIn K cd13 "_law_take" = true) (k13 : PySem.W.keepIn K (.ref f13) = true)
    {f14 : Addr} {od14 an14 : Option Addr} {sl14 : Array (Option Value)} {oc14 kV14 dc14 pm14 cd14 ct14 : Value}
    (a14 : PySem.W.nsIn K mainGlobals "_law_values" = some (some (.ref f14))) (l14 : K.lookup f14 = some ⟨oc14, od14, .func (PySem.W.fnOf "_law_values" "_law_values" (defArgs s_law_values) (defBody s_law_values) (defScope s_law_values) .none kV14 dc14 pm14 an14 cd14 ct14), sl14⟩) (c14 : PySem.W.codeIn K cd14 "_law_values" = true) (k14 : PySem.W.keepIn K (.ref f14) = true)
    {f15 : Addr} {od15 an15 : Option Addr} {sl15 : Array (Option Value)} {oc15 kV15 dc15 pm15 cd15 ct15 : Value}
    (a15 : PySem.W.nsIn K mainGlobals "_law_laid" = some (some (.ref f15))) (l15 : K.lookup f15 = some ⟨oc15, od15, .func (PySem.W.fnOf "_law_laid" "_law_laid" (defArgs s_law_laid) (defBody s_law_laid) (defScope s_law_laid) .none kV15 dc15 pm15 an15 cd15 ct15), sl15⟩) (c15 : PySem.W.codeIn K cd15 "_law_laid" = true) (k15 : PySem.W.keepIn K (.ref f15) = true)
    {f16 : Addr} {od16 an16 : Option Addr} {sl16 : Array (Option Value)} {oc16 kV16 dc16 pm16 cd16 ct16 : Value}
    (a16 : PySem.W.nsIn K mainGlobals "_law_sign" = some (some (.ref f16))) (l16 : K.lookup f16 = some ⟨oc16, od16, .func (PySem.W.fnOf "_law_sign" "_law_sign" (defArgs s_law_sign) (defBody s_law_sign) (defScope s_law_sign) .none kV16 dc16 pm16 an16 cd16 ct16), sl16⟩) (c16 : PySem.W.codeIn K cd16 "_law_sign" = true) (k16 : PySem.W.keepIn K (.ref f16) = true)
    {f17 : Addr} {od17 an17 : Option Addr} {sl17 : Array (Option Value)} {oc17 kV17 dc17 pm17 cd17 ct17 : Value}
    (a17 : PySem.W.nsIn K mainGlobals "_law_view" = some (some (.ref f17))) (l17 : K.lookup f17 = some ⟨oc17, od17, .func (PySem.W.fnOf "_law_view" "_law_view" (defArgs s_law_view) (defBody s_law_view) (defScope s_law_view) .none kV17 dc17 pm17 an17 cd17 ct17), sl17⟩) (c17 : PySem.W.codeIn K cd17 "_law_view" = true) (k17 : PySem.W.keepIn K (.ref f17) = true)
    {f18 : Addr} {od18 an18 : Option Addr} {sl18 : Array (Option Value)} {oc18 kV18 dc18 pm18 cd18 ct18 : Value}
    (a18 : PySem.W.nsIn K mainGlobals "_law_number" = some (some (.ref f18))) (l18 : K.lookup f18 = some ⟨oc18, od18, .func (PySem.W.fnOf "_law_number" "_law_number" (defArgs s_law_number) (defBody s_law_number) (defScope s_law_number) .none kV18 dc18 pm18 an18 cd18 ct18), sl18⟩) (c18 : PySem.W.codeIn K cd18 "_law_number" = true) (k18 : PySem.W.keepIn K (.ref f18) = true)
    {f19 : Addr} {od19 an19 : Option Addr} {sl19 : Array (Option Value)} {oc19 kV19 dc19 pm19 cd19 ct19 : Value}
    (a19 : PySem.W.nsIn K mainGlobals "_law_loop" = some (some (.ref f19))) (l19 : K.lookup f19 = some ⟨oc19, od19, .func (PySem.W.fnOf "_law_loop" "_law_loop" (defArgs s_law_loop) (defBody s_law_loop) (defScope s_law_loop) .none kV19 dc19 pm19 an19 cd19 ct19), sl19⟩) (c19 : PySem.W.codeIn K cd19 "_law_loop" = true) (k19 : PySem.W.keepIn K (.ref f19) = true)
    {f20 : Addr} {od20 an20 : Option Addr} {sl20 : Array (Option Value)} {oc20 kV20 dc20 pm20 cd20 ct20 : Value}
    (a20 : PySem.W.nsIn K mainGlobals "_law_loops" = some (some (.ref f20))) (l20 : K.lookup f20 = some ⟨oc20, od20, .func (PySem.W.fnOf "_law_loops" "_law_loops" (defArgs s_law_loops) (defBody s_law_loops) (defScope s_law_loops) .none kV20 dc20 pm20 an20 cd20 ct20), sl20⟩) (c20 : PySem.W.codeIn K cd20 "_law_loops" = true) (k20 : PySem.W.keepIn K (.ref f20) = true)
    {f21 : Addr} {od21 an21 : Option Addr} {sl21 : Array (Option Value)} {oc21 kV21 dc21 pm21 cd21 ct21 : Value}
    (a21 : PySem.W.nsIn K mainGlobals "_law_one_kind" = some (some (.ref f21))) (l21 : K.lookup f21 = some ⟨oc21, od21, .func (PySem.W.fnOf "_law_one_kind" "_law_one_kind" (defArgs s_law_one_kind) (defBody s_law_one_kind) (defScope s_law_one_kind) .none kV21 dc21 pm21 an21 cd21 ct21), sl21⟩) (c21 : PySem.W.codeIn K cd21 "_law_one_kind" = true) (k21 : PySem.W.keepIn K (.ref f21) = true)
    {f22 : Addr} {od22 an22 : Option Addr} {sl22 : Array (Option Value)} {oc22 kV22 dc22 pm22 cd22 ct22 : Value}
    (a22 : PySem.W.nsIn K mainGlobals "_law_reason" = some (some (.ref f22))) (l22 : K.lookup f22 = some ⟨oc22, od22, .func (PySem.W.fnOf "_law_reason" "_law_reason" (defArgs s_law_reason) (defBody s_law_reason) (defScope s_law_reason) .none kV22 dc22 pm22 an22 cd22 ct22), sl22⟩) (c22 : PySem.W.codeIn K cd22 "_law_reason" = true) (k22 : PySem.W.keepIn K (.ref f22) = true)
    {f23 : Addr} {od23 an23 : Option Addr} {sl23 : Array (Option Value)} {oc23 kV23 dc23 pm23 cd23 ct23 : Value}
    (a23 : PySem.W.nsIn K mainGlobals "_law_arranged" = some (some (.ref f23))) (l23 : K.lookup f23 = some ⟨oc23, od23, .func (PySem.W.fnOf "_law_arranged" "_law_arranged" (defArgs s_law_arranged) (defBody s_law_arranged) (defScope s_law_arranged) .none kV23 dc23 pm23 an23 cd23 ct23), sl23⟩) (c23 : PySem.W.codeIn K cd23 "_law_arranged" = true) (k23 : PySem.W.keepIn K (.ref f23) = true)
    {f24 : Addr} {od24 an24 : Option Addr} {sl24 : Array (Option Value)} {oc24 kV24 dc24 pm24 cd24 ct24 : Value}
    (a24 : PySem.W.nsIn K mainGlobals "_law_moved_on" = some (some (.ref f24))) (l24 : K.lookup f24 = some ⟨oc24, od24, .func (PySem.W.fnOf "_law_moved_on" "_law_moved_on" (defArgs s_law_moved_on) (defBody s_law_moved_on) (defScope s_law_moved_on) .none kV24 dc24 pm24 an24 cd24 ct24), sl24⟩) (c24 : PySem.W.codeIn K cd24 "_law_moved_on" = true) (k24 : PySem.W.keepIn K (.ref f24) = true)
    {f25 : Addr} {od25 an25 : Option Addr} {sl25 : Array (Option Value)} {oc25 kV25 dc25 pm25 cd25 ct25 : Value}
    (a25 : PySem.W.nsIn K mainGlobals "_law_reached" = some (some (.ref f25))) (l25 : K.lookup f25 = some ⟨oc25, od25, .func (PySem.W.fnOf "_law_reached" "_law_reached" (defArgs s_law_reached) (defBody s_law_reached) (defScope s_law_reached) .none kV25 dc25 pm25 an25 cd25 ct25), sl25⟩) (c25 : PySem.W.codeIn K cd25 "_law_reached" = true) (k25 : PySem.W.keepIn K (.ref f25) = true)
    {f26 : Addr} {od26 an26 : Option Addr} {sl26 : Array (Option Value)} {oc26 kV26 dc26 pm26 cd26 ct26 : Value}
    (a26 : PySem.W.nsIn K mainGlobals "_law_same_reason" = some (some (.ref f26))) (l26 : K.lookup f26 = some ⟨oc26, od26, .func (PySem.W.fnOf "_law_same_reason" "_law_same_reason" (defArgs s_law_same_reason) (defBody s_law_same_reason) (defScope s_law_same_reason) .none kV26 dc26 pm26 an26 cd26 ct26), sl26⟩) (c26 : PySem.W.codeIn K cd26 "_law_same_reason" = true) (k26 : PySem.W.keepIn K (.ref f26) = true)
    {f27 : Addr} {od27 an27 : Option Addr} {sl27 : Array (Option Value)} {oc27 kV27 dc27 pm27 cd27 ct27 : Value}
    (a27 : PySem.W.nsIn K mainGlobals "_law_world_holds" = some (some (.ref f27))) (l27 : K.lookup f27 = some ⟨oc27, od27, .func (PySem.W.fnOf "_law_world_holds" "_law_world_holds" (defArgs s_law_world_holds) (defBody s_law_world_holds) (defScope s_law_world_holds) .none kV27 dc27 pm27 an27 cd27 ct27), sl27⟩) (c27 : PySem.W.codeIn K cd27 "_law_world_holds" = true) (k27 : PySem.W.keepIn K (.ref f27) = true)
    {f28 : Addr} {od28 an28 : Option Addr} {sl28 : Array (Option Value)} {oc28 kV28 dc28 pm28 cd28 ct28 : Value}
    (a28 : PySem.W.nsIn K mainGlobals "_law_count" = some (some (.ref f28))) (l28 : K.lookup f28 = some ⟨oc28, od28, .func (PySem.W.fnOf "_law_count" "_law_count" (defArgs s_law_count) (defBody s_law_count) (defScope s_law_count) .none kV28 dc28 pm28 an28 cd28 ct28), sl28⟩) (c28 : PySem.W.codeIn K cd28 "_law_count" = true) (k28 : PySem.W.keepIn K (.ref f28) = true)
    {f29 : Addr} {od29 an29 : Option Addr} {sl29 : Array (Option Value)} {oc29 kV29 dc29 pm29 cd29 ct29 : Value}
    (a29 : PySem.W.nsIn K mainGlobals "law" = some (some (.ref f29))) (l29 : K.lookup f29 = some ⟨oc29, od29, .func (PySem.W.fnOf "law" "law" (defArgs slaw) (defBody slaw) (defScope slaw) .none kV29 dc29 pm29 an29 cd29 ct29), sl29⟩) (c29 : PySem.W.codeIn K cd29 "law" = true) (k29 : PySem.W.keepIn K (.ref f29) = true)
    (z0 : PySem.W.nsIn K mainGlobals "abs" = some none)
    (z1 : PySem.W.nsIn K mainGlobals "all" = some none)
    (z2 : PySem.W.nsIn K mainGlobals "bool" = some none)
    (z3 : PySem.W.nsIn K mainGlobals "enumerate" = some none)
    (z4 : PySem.W.nsIn K mainGlobals "int" = some none)
    (z5 : PySem.W.nsIn K mainGlobals "isinstance" = some none)
    (z6 : PySem.W.nsIn K mainGlobals "len" = some none)
    (z7 : PySem.W.nsIn K mainGlobals "list" = some none)
    (z8 : PySem.W.nsIn K mainGlobals "max" = some none)
    (z9 : PySem.W.nsIn K mainGlobals "min" = some none)
    (z10 : PySem.W.nsIn K mainGlobals "range" = some none)
    (z11 : PySem.W.nsIn K mainGlobals "set" = some none)
    (z12 : PySem.W.nsIn K mainGlobals "sorted" = some none)
    (z13 : PySem.W.nsIn K mainGlobals "str" = some none)
    (z14 : PySem.W.nsIn K mainGlobals "sum" = some none)
    (z15 : PySem.W.nsIn K mainGlobals "tuple" = some none)
    {t0 : Tok} (y0 : PySem.W.nsIn K mainGlobals "EMPTY" = some (some (.int (-1) t0)))
    {t1 : Tok} (y1 : PySem.W.nsIn K mainGlobals "_GREATEST" = some (some (.int (999) t1)))
    {t2 : Tok} (y2 : PySem.W.nsIn K mainGlobals "_MOST_BLOCKS" = some (some (.int (12) t2)))
    {C_InvalidImage : Addr}
    (eC_InvalidImage : PySem.W.nsIn K mainGlobals "InvalidImage" = some (some (.ref C_InvalidImage)))
    (eIc_InvalidImage : PySem.W.isClsIn K C_InvalidImage = true)
    (eTy_InvalidImage : PySem.W.typeIn K (.ref C_InvalidImage) = some (.type "type"))
    (eSb_InvalidImage : PySem.W.subIn K (.ref C_InvalidImage) (.type "BaseException") = some true)
    (eSs_InvalidImage : PySem.W.subIn K (.ref C_InvalidImage) (.ref C_InvalidImage) = some true)
    {C_Undecided : Addr}
    (eC_Undecided : PySem.W.nsIn K mainGlobals "Undecided" = some (some (.ref C_Undecided)))
    (eIc_Undecided : PySem.W.isClsIn K C_Undecided = true)
    (eTy_Undecided : PySem.W.typeIn K (.ref C_Undecided) = some (.type "type"))
    (eSb_Undecided : PySem.W.subIn K (.ref C_Undecided) (.type "BaseException") = some true)
    (eSs_Undecided : PySem.W.subIn K (.ref C_Undecided) (.ref C_Undecided) = some true)
    {C_NotRenaming : Addr}
    (eC_NotRenaming : PySem.W.nsIn K mainGlobals "NotRenaming" = some (some (.ref C_NotRenaming)))
    (eIc_NotRenaming : PySem.W.isClsIn K C_NotRenaming = true)
    (eTy_NotRenaming : PySem.W.typeIn K (.ref C_NotRenaming) = some (.type "type"))
    (eSb_NotRenaming : PySem.W.subIn K (.ref C_NotRenaming) (.type "BaseException") = some true)
    (eSs_NotRenaming : PySem.W.subIn K (.ref C_NotRenaming) (.ref C_NotRenaming) = some true)
    {C_RedoError : Addr}
    (eC_RedoError : PySem.W.nsIn K mainGlobals "RedoError" = some (some (.ref C_RedoError)))
    {fI_InvalidImage : Addr} {nm_InvalidImage q_InvalidImage : Str} {NE_InvalidImage : Addr} {bs_InvalidImage : List Value} {sn_InvalidImage : List Str} {sub_InvalidImage : List Value} {ab_InvalidImage : Bool} {col_InvalidImage : Option Bool} {dd_InvalidImage : Option Addr} {m0_InvalidImage m1_InvalidImage m2_InvalidImage m3_InvalidImage m5_InvalidImage : Option Value} {od_InvalidImage an_InvalidImage : Option Addr} {sl_InvalidImage : Array (Option Value)} {oc_InvalidImage kV_InvalidImage dc_InvalidImage pm_InvalidImage cd_InvalidImage ct_InvalidImage : Value}
    (eX_InvalidImage : K.lookup C_InvalidImage = some (excClassObj nm_InvalidImage q_InvalidImage C_InvalidImage NE_InvalidImage bs_InvalidImage [.ref C_RedoError, .type "ValueError", .type "Exception", .type "BaseException", .type "object"] true sn_InvalidImage sub_InvalidImage ab_InvalidImage col_InvalidImage dd_InvalidImage m0_InvalidImage m1_InvalidImage m2_InvalidImage m3_InvalidImage m5_InvalidImage "ValueError.__new__"))
    (eSa_InvalidImage : PySem.W.findIn K (.ref C_InvalidImage) "__setattr__" = some (some (.builtin "object.__setattr__")))
    (eGa_InvalidImage : PySem.W.findIn K (.ref C_InvalidImage) "__getattribute__" = some (some (.builtin "BaseException.__getattribute__")))
    (eGg_InvalidImage : PySem.W.findIn K (.ref C_InvalidImage) "__getattr__" = some none)
    (eNb_InvalidImage : PySem.W.findIn K (.ref C_InvalidImage) "block" = some none)
    (eIn_InvalidImage : PySem.W.findIn K (.ref C_InvalidImage) "__init__" = some (some (.ref fI_InvalidImage)))
    (eTf_InvalidImage : PySem.W.typeIn K (.ref fI_InvalidImage) = some (.type "function"))
    (eLk_InvalidImage : K.lookup fI_InvalidImage = some ⟨oc_InvalidImage, od_InvalidImage, .func (PySem.W.fnOf "__init__" "InvalidImage.__init__" (defArgs sInvalidImageu_initu) (defBody sInvalidImageu_initu) (defScope sInvalidImageu_initu) .none kV_InvalidImage dc_InvalidImage pm_InvalidImage an_InvalidImage cd_InvalidImage ct_InvalidImage), sl_InvalidImage⟩)
    (eCd_InvalidImage : PySem.W.codeIn K cd_InvalidImage "InvalidImage.__init__" = true)
    (eKf_InvalidImage : PySem.W.keepIn K (.ref fI_InvalidImage) = true)
    (eKp_InvalidImage : PySem.W.keepIn K (.ref C_InvalidImage) = true)
    (eHd_InvalidImage : PySem.W.hasDictIn K C_InvalidImage = true)
    (eCc_InvalidImage : PySem.W.findIn K (.ref C_InvalidImage) "__class__" = some (some (.builtin "object.__class__")))
    (eSp_InvalidImage : PySem.W.specialIn K (.builtin "object.__class__") "__get__" = some (some (.builtin "getset_descriptor.__get__")))
    (eTk_InvalidImage : PySem.W.takesIn K (.builtin "object.__class__") = some true)
    (eMo_InvalidImage : PySem.W.mroIn K C_InvalidImage (.type "object") = some true)
    {fI_Undecided : Addr} {nm_Undecided q_Undecided : Str} {NE_Undecided : Addr} {bs_Undecided : List Value} {sn_Undecided : List Str} {sub_Undecided : List Value} {ab_Undecided : Bool} {col_Undecided : Option Bool} {dd_Undecided : Option Addr} {m0_Undecided m1_Undecided m2_Undecided m3_Undecided m5_Undecided : Option Value} {od_Undecided an_Undecided : Option Addr} {sl_Undecided : Array (Option Value)} {oc_Undecided kV_Undecided dc_Undecided pm_Undecided cd_Undecided ct_Undecided : Value}
    (eX_Undecided : K.lookup C_Undecided = some (excClassObj nm_Undecided q_Undecided C_Undecided NE_Undecided bs_Undecided [.ref C_RedoError, .type "ValueError", .type "Exception", .type "BaseException", .type "object"] true sn_Undecided sub_Undecided ab_Undecided col_Undecided dd_Undecided m0_Undecided m1_Undecided m2_Undecided m3_Undecided m5_Undecided "ValueError.__new__"))
    (eSa_Undecided : PySem.W.findIn K (.ref C_Undecided) "__setattr__" = some (some (.builtin "object.__setattr__")))
    (eGa_Undecided : PySem.W.findIn K (.ref C_Undecided) "__getattribute__" = some (some (.builtin "BaseException.__getattribute__")))
    (eGg_Undecided : PySem.W.findIn K (.ref C_Undecided) "__getattr__" = some none)
    (eNb_Undecided : PySem.W.findIn K (.ref C_Undecided) "rings" = some none)
    (eIn_Undecided : PySem.W.findIn K (.ref C_Undecided) "__init__" = some (some (.ref fI_Undecided)))
    (eTf_Undecided : PySem.W.typeIn K (.ref fI_Undecided) = some (.type "function"))
    (eLk_Undecided : K.lookup fI_Undecided = some ⟨oc_Undecided, od_Undecided, .func (PySem.W.fnOf "__init__" "Undecided.__init__" (defArgs sUndecidedu_initu) (defBody sUndecidedu_initu) (defScope sUndecidedu_initu) .none kV_Undecided dc_Undecided pm_Undecided an_Undecided cd_Undecided ct_Undecided), sl_Undecided⟩)
    (eCd_Undecided : PySem.W.codeIn K cd_Undecided "Undecided.__init__" = true)
    (eKf_Undecided : PySem.W.keepIn K (.ref fI_Undecided) = true)
    (eKp_Undecided : PySem.W.keepIn K (.ref C_Undecided) = true)
    (eHd_Undecided : PySem.W.hasDictIn K C_Undecided = true)
    (eCc_Undecided : PySem.W.findIn K (.ref C_Undecided) "__class__" = some (some (.builtin "object.__class__")))
    (eSp_Undecided : PySem.W.specialIn K (.builtin "object.__class__") "__get__" = some (some (.builtin "getset_descriptor.__get__")))
    (eTk_Undecided : PySem.W.takesIn K (.builtin "object.__class__") = some true)
    (eMo_Undecided : PySem.W.mroIn K C_Undecided (.type "object") = some true)
    (eQx_NotRenaming : PySem.W.excIn K C_NotRenaming vBase "ValueError.__new__" = true)
    (eKp_NotRenaming : PySem.W.keepIn K (.ref C_NotRenaming) = true)
    (eGa_NotRenaming : PySem.W.findIn K (.ref C_NotRenaming) "__getattribute__" = some (some (.builtin "BaseException.__getattribute__")))
    (eGg_NotRenaming : PySem.W.findIn K (.ref C_NotRenaming) "__getattr__" = some none)
    (eHd_NotRenaming : PySem.W.hasDictIn K C_NotRenaming = true)
    (eCc_NotRenaming : PySem.W.findIn K (.ref C_NotRenaming) "__class__" = some (some (.builtin "object.__class__")))
    (eSp_NotRenaming : PySem.W.specialIn K (.builtin "object.__class__") "__get__" = some (some (.builtin "getset_descriptor.__get__")))
    (eTk_NotRenaming : PySem.W.takesIn K (.builtin "object.__class__") = some true)
    (eMo_NotRenaming : PySem.W.mroIn K C_NotRenaming (.type "object") = some true)
    (zm_perm : PySem.W.nsIn K mainGlobals "perm" = some (some (.builtin "math.perm")))
    (zm_factorial : PySem.W.nsIn K mainGlobals "factorial" = some (some (.builtin "math.factorial")))
    : ∃ fd : FuncData, (∀ (s : Shared) (v : Value), BindsTo s fd ⟨[v], []⟩ [("script", v)]) ∧ ∀ base : Heap, K.In base → base.Ns mainGlobals mg → FnOk l.prog w K mg base CX0 10 fa fd ["script"] (splaw K) := by
  have e := hfa.symm.trans (PySem.W.mg_of X G a29)
  cases e
  have T : Top K mg := ⟨def_mk X G a0 l0 c0 k0 (fun _ _ _ _ _ _ us hl => match us, hl with | [_], _ => rfl),
    def_mk X G a1 l1 c1 k1 (fun _ _ _ _ _ _ us hl => match us, hl with | [_], _ => rfl),
    def_mk X G a2 l2 c2 k2 (fun _ _ _ _ _ _ us hl => match us, hl with | [_], _ => rfl),
    def_mk X G a3 l3 c3 k3 (fun _ _ _ _ _ _ us hl => match us, hl with | [_, _], _ => rfl),
    def_mk X G a4 l4 c4 k4 (fun _ _ _ _ _ _ us hl => match us, hl with | [_], _ => rfl),
    def_mk X G a5 l5 c5 k5 (fun _ _ _ _ _ _ us hl => match us, hl with | [_, _], _ => rfl),
    def_mk X G a6 l6 c6 k6 (fun _ _ _ _ _ _ us hl => match us, hl with | [_, _], _ => rfl),
    def_mk X G a7 l7 c7 k7 (fun _ _ _ _ _ _ us hl => match us, hl with | [_, _], _ => rfl),
    def_mk X G a8 l8 c8 k8 (fun _ _ _ _ _ _ us hl => match us, hl with | [_, _], _ => rfl),
    def_mk X G a9 l9 c9 k9 (fun _ _ _ _ _ _ us hl => match us, hl with | [_, _], _ => rfl),
    def_mk X G a10 l10 c10 k10 (fun _ _ _ _ _ _ us hl => match us, hl with | [_, _], _ => rfl),
    def_mk X G a11 l11 c11 k11 (fun _ _ _ _ _ _ us hl => match us, hl with | [_], _ => rfl),
    def_mk X G a12 l12 c12 k12 (fun _ _ _ _ _ _ us hl => match us, hl with | [_, _], _ => rfl),
    def_mk X G a13 l13 c13 k13 (fun _ _ _ _ _ _ us hl => match us, hl with | [_, _], _ => rfl),
    def_mk X G a14 l14 c14 k14 (fun _ _ _ _ _ _ us hl => match us, hl with | [_, _], _ => rfl),
    def_mk X G a15 l15 c15 k15 (fun _ _ _ _ _ _ us hl => match us, hl with | [_, _, _], _ => rfl),
    def_mk X G a16 l16 c16 k16 (fun _ _ _ _ _ _ us hl => match us, hl with | [_], _ => rfl),
    def_mk X G a17 l17 c17 k17 (fun _ _ _ _ _ _ us hl => match us, hl with | [_], _ => rfl),
    def_mk X G a18 l18 c18 k18 (fun _ _ _ _ _ _ us hl => match us, hl with | [_], _ => rfl),
    def_mk X G a19 l19 c19 k19 (fun _ _ _ _ _ _ us hl => match us, hl with | [_, _, _], _ => rfl),
    def_mk X G a20 l20 c20 k20 (fun _ _ _ _ _ _ us hl => match us, hl with | [_, _], _ => rfl),
    def_mk X G a21 l21 c21 k21 (fun _ _ _ _ _ _ us hl => match us, hl with | [_], _ => rfl),
    def_mk X G a22 l22 c22 k22 (fun _ _ _ _ _ _ us hl => match us, hl with | [_, _], _ => rfl),
    def_mk X G a23 l23 c23 k23 (fun _ _ _ _ _ _ us hl => match us, hl with | [_, _], _ => rfl),
    def_mk X G a24 l24 c24 k24 (fun _ _ _ _ _ _ us hl => match us, hl with | [_], _ => rfl),
    def_mk X G a25 l25 c25 k25 (fun _ _ _ _ _ _ us hl => match us, hl with | [_], _ => rfl),
    def_mk X G a26 l26 c26 k26 (fun _ _ _ _ _ _ us hl => match us, hl with | [_, _], _ => rfl),
    def_mk X G a27 l27 c27 k27 (fun _ _ _ _ _ _ us hl => match us, hl with | [_], _ => rfl),
    def_mk X G a28 l28 c28 k28 (fun _ _ _ _ _ _ us hl => match us, hl with | [_, _], _ => rfl),
    def_mk X G a29 l29 c29 k29 (fun _ _ _ _ _ _ us hl => match us, hl with | [_], _ => rfl),
    PySem.W.mg_none_of X G z0,
    PySem.W.mg_none_of X G z1,
    PySem.W.mg_none_of X G z2,
    PySem.W.mg_none_of X G z3,
    PySem.W.mg_none_of X G z4,
    PySem.W.mg_none_of X G z5,
    PySem.W.mg_none_of X G z6,
    PySem.W.mg_none_of X G z7,
    PySem.W.mg_none_of X G z8,
    PySem.W.mg_none_of X G z9,
    PySem.W.mg_none_of X G z10,
    PySem.W.mg_none_of X G z11,
    PySem.W.mg_none_of X G z12,
    PySem.W.mg_none_of X G z13,
    PySem.W.mg_none_of X G z14,
    PySem.W.mg_none_of X G z15,
    const_mk X G y0 ⟨_, rfl⟩,
    const_mk X G y1 ⟨_, rfl⟩,
    const_mk X G y2 ⟨_, rfl⟩,
    (by
      rw [atTop_of eC_InvalidImage]
      have F := fun_mk (st := sInvalidImageu_initu) eLk_InvalidImage eCd_InvalidImage eKf_InvalidImage
      exact ⟨fI_InvalidImage, _, ⟨PySem.W.mg_of X G eC_InvalidImage, ⟨⟨_, _, _, _, _, _, _, _, _, _, _, _, _, _, _, eX_InvalidImage, by rfl⟩, eSa_InvalidImage, eSb_InvalidImage, eTy_InvalidImage, eKp_InvalidImage⟩, ⟨eGa_InvalidImage, eGg_InvalidImage, eSb_InvalidImage, eHd_InvalidImage⟩, ⟨eGa_InvalidImage, eGg_InvalidImage, eSb_InvalidImage, eHd_InvalidImage, eCc_InvalidImage, eSp_InvalidImage, eTk_InvalidImage, eMo_InvalidImage⟩, eIc_InvalidImage, eNb_InvalidImage, eIn_InvalidImage, eTf_InvalidImage⟩, F, F.binds (ps := ["self", "block"]) fun _ _ _ _ _ _ us hl => match us, hl with | [_, _], _ => rfl⟩),
    (by
      rw [atTop_of eC_Undecided]
      have F := fun_mk (st := sUndecidedu_initu) eLk_Undecided eCd_Undecided eKf_Undecided
      exact ⟨fI_Undecided, _, ⟨PySem.W.mg_of X G eC_Undecided, ⟨⟨_, _, _, _, _, _, _, _, _, _, _, _, _, _, _, eX_Undecided, by rfl⟩, eSa_Undecided, eSb_Undecided, eTy_Undecided, eKp_Undecided⟩, ⟨eGa_Undecided, eGg_Undecided, eSb_Undecided, eHd_Undecided⟩, ⟨eGa_Undecided, eGg_Undecided, eSb_Undecided, eHd_Undecided, eCc_Undecided, eSp_Undecided, eTk_Undecided, eMo_Undecided⟩, eIc_Undecided, eNb_Undecided, eIn_Undecided, eTf_Undecided⟩, F, F.binds (ps := ["self", "rings"]) fun _ _ _ _ _ _ us hl => match us, hl with | [_, _], _ => rfl⟩),
    ⟨_, PySem.W.mg_of X G eC_InvalidImage, (by rw [atTop_of eC_InvalidImage]; rfl)⟩,
    ⟨_, PySem.W.mg_of X G eC_NotRenaming, (by rw [atTop_of eC_NotRenaming]; rfl)⟩,
    ⟨_, PySem.W.mg_of X G eC_Undecided, (by rw [atTop_of eC_Undecided]; rfl)⟩,
    (by rw [atTop_of eC_NotRenaming]; exact ⟨PySem.W.mg_of X G eC_NotRenaming, eQx_NotRenaming, eKp_NotRenaming, eSb_NotRenaming, eTy_NotRenaming, ⟨eGa_NotRenaming, eGg_NotRenaming, eSb_NotRenaming, eHd_NotRenaming, eCc_NotRenaming, eSp_NotRenaming, eTk_NotRenaming, eMo_NotRenaming⟩, eIc_NotRenaming⟩),
    PySem.W.mg_of X G zm_perm,
    PySem.W.mg_of X G zm_factorial⟩
  have F := fun_mk (st := slaw) l29 c29 k29
  exact ⟨_, fun s v => .of_eq rfl, fun base _ _ => oklaw T ⟨F, F.binds (ps := ["script"]) fun _ _ _ _ _ _ us hl => match us, hl with | [_], _ => rfl, PySem.W.mg_of X G a29⟩⟩
end K42
open PySem PySem.W PyProof.Rows in
set_option maxRecDepth 100000 in
set_option maxHeartbeats 0 in
theorem PySem.Challenge.cw_redolots_k42_count_goals_holds : PySem.Challenge.rw_redolots_k42_count_goals.Holds := by
  w_on; o_law; k_head; (case hw => w_witness2)
  k_fill
  refine L2.walk_ofK (l := PySem.Challenge.rw_redolots_k42_count_goals) (n := 63) (k := 10) (x := "script") (CX := L2.CX0) (sp := K42.splaw) rfl (by decide) rfl ⟨rfl, by decide, by decide⟩ (fun w h Y => PySem.W.kIn_of Y) ?F (fun K H a ns hl _ hS => ⟨a, ns, rfl, hS, hl, fun _ => rfl⟩) (fun _ _ _ _ z => z)
  case F =>
    intro w mg fa h KX G hmg
    refine' K42.all_mk KX G hmg ?a0 ?l0 ?c0 ?k0 ?a1 ?l1 ?c1 ?k1 ?a2 ?l2 ?c2 ?k2 ?a3 ?l3 ?c3 ?k3 ?a4 ?l4 ?c4 ?k4 ?a5 ?l5 ?c5 ?k5 ?a6 ?l6 ?c6 ?k6 ?a7 ?l7 ?c7 ?k7 ?a8 ?l8 ?c8 ?k8 ?a9 ?l9 ?c9 ?k9 ?a10 ?l10 ?c10 ?k10 ?a11 ?l11 ?c11 ?k11 ?a12 ?l12 ?c12 ?k12 ?a13 ?l13 ?c13 ?k13 ?a14 ?l14 ?c14 ?k14 ?a15 ?l15 ?c15 ?k15 ?a16 ?l16 ?c16 ?k16 ?a17 ?l17 ?c17 ?k17 ?a18 ?l18 ?c18 ?k18 ?a19 ?l19 ?c19 ?k19 ?a20 ?l20 ?c20 ?k20 ?a21 ?l21 ?c21 ?k21 ?a22 ?l22 ?c22 ?k22 ?a23 ?l23 ?c23 ?k23 ?a24 ?l24 ?c24 ?k24 ?a25 ?l25 ?c25 ?k25 ?a26 ?l26 ?c26 ?k26 ?a27 ?l27 ?c27 ?k27 ?a28 ?l28 ?c28 ?k28 ?a29 ?l29 ?c29 ?k29 ?z0 ?z1 ?z2 ?z3 ?z4 ?z5 ?z6 ?z7 ?z8 ?z9 ?z10 ?z11 ?z12 ?z13 ?z14 ?z15 ?y0 ?y1 ?y2 ?eC_InvalidImage ?eIc_InvalidImage ?eTy_InvalidImage ?eSb_InvalidImage ?eSs_InvalidImage ?eC_Undecided ?eIc_Undecided ?eTy_Undecided ?eSb_Undecided ?eSs_Undecided ?eC_NotRenaming ?eIc_NotRenaming ?eTy_NotRenaming ?eSb_NotRenaming ?eSs_NotRenaming ?eC_RedoError ?eX_InvalidImage ?eSa_InvalidImage ?eGa_InvalidImage ?eGg_InvalidImage ?eNb_InvalidImage ?eIn_InvalidImage ?eTf_InvalidImage ?eLk_InvalidImage ?eCd_InvalidImage ?eKf_InvalidImage ?eKp_InvalidImage ?eHd_InvalidImage ?eCc_InvalidImage ?eSp_InvalidImage ?eTk_InvalidImage ?eMo_InvalidImage ?eX_Undecided ?eSa_Undecided ?eGa_Undecided ?eGg_Undecided ?eNb_Undecided ?eIn_Undecided ?eTf_Undecided ?eLk_Undecided ?eCd_Undecided ?eKf_Undecided ?eKp_Undecided ?eHd_Undecided ?eCc_Undecided ?eSp_Undecided ?eTk_Undecided ?eMo_Undecided ?eQx_NotRenaming ?eKp_NotRenaming ?eGa_NotRenaming ?eGg_NotRenaming ?eHd_NotRenaming ?eCc_NotRenaming ?eSp_NotRenaming ?eTk_NotRenaming ?eMo_NotRenaming ?zm_perm ?zm_factorial
    (case a0 => k_is)
    (case l0 => k_is)
    (case c0 => k_is)
    (case k0 => k_is)
    (case a1 => k_is)
    (case l1 => k_is)
    (case c1 => k_is)
    (case k1 => k_is)
    (case a2 => k_is)
    (case l2 => k_is)
    (case c2 => k_is)
    (case k2 => k_is)
    (case a3 => k_is)
    (case l3 => k_is)
    (case c3 => k_is)
    (case k3 => k_is)
    (case a4 => k_is)
    (case l4 => k_is)
    (case c4 => k_is)
    (case k4 => k_is)
    (case a5 => k_is)
    (case l5 => k_is)
    (case c5 => k_is)
    (case k5 => k_is)
    (case a6 => k_is)
    (case l6 => k_is)
    (case c6 => k_is)
    (case k6 => k_is)
    (case a7 => k_is)
    (case l7 => k_is)
    (case c7 => k_is)
    (case k7 => k_is)
    (case a8 => k_is)
    (case l8 => k_is)
    (case c8 => k_is)
    (case k8 => k_is)
    (case a9 => k_is)
    (case l9 => k_is)
    (case c9 => k_is)
    (case k9 => k_is)
    (case a10 => k_is)
    (case l10 => k_is)
    (case c10 => k_is)
    (case k10 => k_is)
    (case a11 => k_is)
    (case l11 => k_is)
    (case c11 => k_is)
    (case k11 => k_is)
    (case a12 => k_is)
    (case l12 => k_is)
    (case c12 => k_is)
    (case k12 => k_is)
    (case a13 => k_is)
    (case l13 => k_is)
    (case c13 => k_is)
    (case k13 => k_is)
    (case a14 => k_is)
    (case l14 => k_is)
    (case c14 => k_is)
    (case k14 => k_is)
    (case a15 => k_is)
    (case l15 => k_is)
    (case c15 => k_is)
    (case k15 => k_is)
    (case a16 => k_is)
    (case l16 => k_is)
    (case c16 => k_is)
    (case k16 => k_is)
    (case a17 => k_is)
    (case l17 => k_is)
    (case c17 => k_is)
    (case k17 => k_is)
    (case a18 => k_is)
    (case l18 => k_is)
    (case c18 => k_is)
    (case k18 => k_is)
    (case a19 => k_is)
    (case l19 => k_is)
    (case c19 => k_is)
    (case k19 => k_is)
    (case a20 => k_is)
    (case l20 => k_is)
    (case c20 => k_is)
    (case k20 => k_is)
    (case a21 => k_is)
    (case l21 => k_is)
    (case c21 => k_is)
    (case k21 => k_is)
    (case a22 => k_is)
    (case l22 => k_is)
    (case c22 => k_is)
    (case k22 => k_is)
    (case a23 => k_is)
    (case l23 => k_is)
    (case c23 => k_is)
    (case k23 => k_is)
    (case a24 => k_is)
    (case l24 => k_is)
    (case c24 => k_is)
    (case k24 => k_is)
    (case a25 => k_is)
    (case l25 => k_is)
    (case c25 => k_is)
    (case k25 => k_is)
    (case a26 => k_is)
    (case l26 => k_is)
    (case c26 => k_is)
    (case k26 => k_is)
    (case a27 => k_is)
    (case l27 => k_is)
    (case c27 => k_is)
    (case k27 => k_is)
    (case a28 => k_is)
    (case l28 => k_is)
    (case c28 => k_is)
    (case k28 => k_is)
    (case a29 => k_is)
    (case l29 => k_is)
    (case c29 => k_is)
    (case k29 => k_is)
    (case z0 => k_is)
    (case z1 => k_is)
    (case z2 => k_is)
    (case z3 => k_is)
    (case z4 => k_is)
    (case z5 => k_is)
    (case z6 => k_is)
    (case z7 => k_is)
    (case z8 => k_is)
    (case z9 => k_is)
    (case z10 => k_is)
    (case z11 => k_is)
    (case z12 => k_is)
    (case z13 => k_is)
    (case z14 => k_is)
    (case z15 => k_is)
    (case y0 => k_is)
    (case y1 => k_is)
    (case y2 => k_is)
    (case eC_InvalidImage => k_is)
    (case eIc_InvalidImage => k_is)
    (case eTy_InvalidImage => k_is)
    (case eSb_InvalidImage => k_is)
    (case eSs_InvalidImage => k_is)
    (case eC_Undecided => k_is)
    (case eIc_Undecided => k_is)
    (case eTy_Undecided => k_is)
    (case eSb_Undecided => k_is)
    (case eSs_Undecided => k_is)
    (case eC_NotRenaming => k_is)
    (case eIc_NotRenaming => k_is)
    (case eTy_NotRenaming => k_is)
    (case eSb_NotRenaming => k_is)
    (case eSs_NotRenaming => k_is)
    (case eC_RedoError => k_is)
    (case eX_InvalidImage => k_is)
    (case eSa_InvalidImage => k_is)
    (case eGa_InvalidImage => k_is)
    (case eGg_InvalidImage => k_is)
    (case eNb_InvalidImage => k_is)
    (case eIn_InvalidImage => k_is)
    (case eTf_InvalidImage => k_is)
    (case eLk_InvalidImage => k_is)
    (case eCd_InvalidImage => k_is)
    (case eKf_InvalidImage => k_is)
    (case eKp_InvalidImage => k_is)
    (case eHd_InvalidImage => k_is)
    (case eCc_InvalidImage => k_is)
    (case eSp_InvalidImage => k_is)
    (case eTk_InvalidImage => k_is)
    (case eMo_InvalidImage => k_is)
    (case eX_Undecided => k_is)
    (case eSa_Undecided => k_is)
    (case eGa_Undecided => k_is)
    (case eGg_Undecided => k_is)
    (case eNb_Undecided => k_is)
    (case eIn_Undecided => k_is)
    (case eTf_Undecided => k_is)
    (case eLk_Undecided => k_is)
    (case eCd_Undecided => k_is)
    (case eKf_Undecided => k_is)
    (case eKp_Undecided => k_is)
    (case eHd_Undecided => k_is)
    (case eCc_Undecided => k_is)
    (case eSp_Undecided => k_is)
    (case eTk_Undecided => k_is)
    (case eMo_Undecided => k_is)
    (case eQx_NotRenaming => k_exc)
    (case eKp_NotRenaming => k_is)
    (case eGa_NotRenaming => k_is)
    (case eGg_NotRenaming => k_is)
    (case eHd_NotRenaming => k_is)
    (case eCc_NotRenaming => k_is)
    (case eSp_NotRenaming => k_is)
    (case eTk_NotRenaming => k_is)
    (case eMo_NotRenaming => k_is)
    (case zm_perm => k_is)
    (case zm_factorial => k_is)
